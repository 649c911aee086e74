import PyProof.Rows.All
import Wide.All
import OpenK.AllK
import Wide.FinOn
import HandS.ForMost
import HandS.Walk
import HandS.Zip
import KE.GoesEnum
import HandS.Wide
import HandS.IsInst
import HandS.Codes
import HandS.TupAny
import HandS.TupMul
import HandS.Conv
import HandS.Flow
import PyProof.TypeEq
import PyProof.InstEq
import PyProof.TypeOfCall
import HandS.Star
import KE.KDictZip
import KE.KItemsList
import HandS.ForExc
import HandS.Style
import HandS.Deep
import PySem.Challenge.RW_loopwords_k07_whole_trees
set_option Elab.async false
set_option linter.all false
set_option maxRecDepth 100000
set_option maxHeartbeats 4000000
/-! zip of a list or a tuple with a list or a tuple; enumerate of a list or a tuple. -/
namespace LW
open PySem PySem.Spec PyProof.Rows L2

/-- true: a tuple; false: a list -/
def Sd (K : PySem.W.Frag) : Bool → Hp → Addr → List V → Prop
  | true, H, a, xs => SqT K H a xs
  | false, H, a, xs => SqL K H a xs
def SdIt : Bool → Heap → Addr → Addr → Nat → Prop
  | true, h, it, a, i => h.IsTupleIter it a i
  | false, h, it, a, i => h.IsListIter it a i
def SdAt : Bool → Heap → Addr → Array Value → Prop
  | true, h, a, its => h.IsTuple a its
  | false, h, a, its => h.IsList a its
def sdObj : Bool → Addr → Obj
  | true, a => { cls := .type "tuple_iterator", data := .fields #[.ref a, .int 0 0] }
  | false, a => { cls := .type "list_iterator", data := .fields #[.ref a, .int 0 0] }

theorem sd_begins (b : Bool) (a : Addr) (its : Array Value) : Begins (.ref a) (sdObj b a) (fun h => SdAt b h a its) := by
  cases b with
  | true => exact begins_tuple a its
  | false => exact begins_list a its
theorem sd_draws {prog : Program} {w : World} {A : Around} (b : Bool) (hh : A.handled = none) (it a : Addr) (hne : a ≠ it) (its : Array Value) :
    Draws prog w A it [it, a] its.size (fun i v => its[i]? = some v) (fun i h => SdIt b h it a i ∧ SdAt b h a its) := by
  cases b with
  | true => exact Draws.tuple hh it a hne its
  | false => exact Draws.list hh it a hne its
theorem sd_it0 {b : Bool} {h : Heap} {it a : Addr} (e : h.get? it = some (sdObj b a)) : SdIt b h it a 0 := by
  cases b with
  | true => exact ⟨_, e, rfl, rfl⟩
  | false => exact ⟨_, e, rfl, rfl⟩
theorem sd_live {b : Bool} {h : Heap} {it a : Addr} {i : Nat} (s : SdIt b h it a i) : ∃ o, h.get? it = some o ∧ ∀ v, o.data ≠ .cell v := by
  cases b with
  | true =>
    obtain ⟨o, e, _, d⟩ := s
    exact ⟨o, e, fun v z => by rw [d] at z; cases z⟩
  | false =>
    obtain ⟨o, e, _, d⟩ := s
    exact ⟨o, e, fun v z => by rw [d] at z; cases z⟩
theorem sd_over {b : Bool} {h h' : Heap} {it a : Addr} {i : Nat} (s : SdIt b h it a i) (k : ∀ o, h.get? it = some o → h'.get? it = some o) : SdIt b h' it a i := by
  cases b with
  | true => exact Heap.IsTupleIter.at s k
  | false => exact Heap.IsListIter.at s k
theorem sd_data {X : Cx} {pins : List (Addr × Obj)} {σ : L2.St} {H : Hp} {s : Shared} {b : Bool} {a : Addr} {xs : List V} (I : Inv X pins σ H s) (q : Sd X.K b H a xs) :
    ∃ its : List Value, Vals xs its ∧ SdAt b s.heap a its.toArray ∧ a < s.heap.objs.size := by
  cases b with
  | true =>
    obtain ⟨its, rv, p, _⟩ := I.tuple q
    obtain ⟨o, ho, _⟩ := id p
    exact ⟨its, rv, p, Heap.lt_size ho⟩
  | false =>
    obtain ⟨its, rv, p, _⟩ := I.list q
    exact ⟨its, rv, p.isList, p.lt⟩
theorem sd_inj {X : Cx} {pins : List (Addr × Obj)} {σ : L2.St} {H : Hp} {s : Shared} {b : Bool} {a : Addr} {xs ys : List V} (I : Inv X pins σ H s) (q : Sd X.K b H a xs) (q' : Sd X.K b H a ys) : xs = ys := by
  cases b with
  | true => exact I.tuple_inj q q'
  | false => exact I.list_inj q q'

/-! ### zip -/
def ItZ (K : PySem.W.Frag) (b1 b2 : Bool) (a c : Addr) : It :=
  ⟨fun i H => ∃ (xs ys : List V) (x y : V), Sd K b1 H a xs ∧ Sd K b2 H c ys ∧ xs[i]? = some x ∧ ys[i]? = some y,
    fun i H v H' => ∃ T x y, v = .ref T ∧ H T = none ∧ H' = upd H T (.tup [x, y]) ∧ (∀ xs, Sd K b1 H a xs → xs[i]? = some x) ∧ ∀ ys, Sd K b2 H c ys → ys[i]? = some y,
    fun i H => ∃ xs ys : List V, Sd K b1 H a xs ∧ Sd K b2 H c ys ∧ i ≤ xs.length ∧ i ≤ ys.length ∧ (xs.length = i ∨ ys.length = i)⟩
/-- the zip's five cells lie apart from one another and from what is zipped -/
structure Apart5 (z TI TO i1 i2 a c : Addr) : Prop where
  sep : ZipSep2 z TI TO i1 i2 [i1, a] [i2, c]
  a1 : a ≠ i1
  c2 : c ≠ i2
theorem apart_new {n a c : Nat} (ha : a < n) (hc : c < n) : Apart5 (n + 4) (n + 2) (n + 3) n (n + 1) a c :=
  ⟨zip_sep2 (N := n) (fp1 := [a]) (fp2 := [c]) (fun b hb => by rw [List.mem_singleton.mp hb]; exact ha) (fun b hb => by rw [List.mem_singleton.mp hb]; exact hc),
    fun e => by have e' : (a : Nat) = n := e; omega, fun e => by have e' : (c : Nat) = n + 1 := e; omega⟩
def ZSt (b1 b2 : Bool) (z TI TO i1 i2 a c : Addr) (i : Nat) (h : Heap) : Prop :=
  IsZip h z TI TO .none ∧ IsTupOf2 h TI (.ref i1) (.ref i2) ∧ (∃ x y, IsTupOf2 h TO x y) ∧ SdIt b1 h i1 a i ∧ SdIt b2 h i2 c i
theorem five {z TI TO i1 i2 c : Addr} (h : c ∈ [z, TI, TO, i1, i2]) : c = z ∨ c = TI ∨ c = TO ∨ c = i1 ∨ c = i2 := by simpa using h
theorem turnZ {P : Program} {w : World} {K : PySem.W.Frag} {elts : List Expr} {kk : Nat} {tpos : Pos} {b1 b2 : Bool} {a c z TI TO i1 i2 : Addr} (D : Apart5 z TI TO i1 i2 a c) :
    Turn P w K (.Tuple elts kk tpos) (ItZ K b1 b2 a c) [z, TI, TO, i1, i2] z (ZSt b1 b2 z TI TO i1 i2 a c) where
  mem := List.mem_cons_self ..
  obj := by
    intro i h st d hd
    obtain ⟨qz, qI, ⟨x, y, qO⟩, q1, q2⟩ := st
    rcases five hd with rfl | rfl | rfl | rfl | rfl
    · exact ⟨_, qz, fun v q => nomatch q⟩
    · exact ⟨_, qI, fun v q => nomatch q⟩
    · exact ⟨_, qO, fun v q => nomatch q⟩
    · exact sd_live q1
    · exact sd_live q2
  keep := by
    intro i h h' st k
    obtain ⟨qz, qI, ⟨x, y, qO⟩, q1, q2⟩ := st
    exact ⟨k z (by simp) _ qz, k TI (by simp) _ qI, ⟨x, y, k TO (by simp) _ qO⟩, sd_over q1 fun o e => k i1 (by simp) o e, sd_over q2 fun o e => k i2 (by simp) o e⟩
  item := by
    intro X hP hw hK hc i pins s σ H E I hf st hg
    subst hP hw hK
    obtain ⟨qz, qI, ⟨x0, y0, qO⟩, q1, q2⟩ := st
    obtain ⟨xs, ys, x, y, hqx, hqy, hx, hy⟩ := hg
    obtain ⟨us, rv, d1, la⟩ := sd_data I hqx
    obtain ⟨ws, rv2, d2, lc⟩ := sd_data I hqy
    obtain ⟨u, hu, ru⟩ := rv.get hx
    obtain ⟨u2, hu2, ru2⟩ := rv2.get hy
    have h1 : i < us.toArray.size := by
      obtain ⟨q, _⟩ := List.getElem?_eq_some_iff.mp hu
      simpa using q
    have h2 : i < ws.toArray.size := by
      obtain ⟨q, _⟩ := List.getElem?_eq_some_iff.mp hu2
      simpa using q
    have zl : z < s.heap.objs.size := Heap.lt_size qz
    refine wpAny_pyNext_zipD2_item D.sep (sd_draws (prog := X.prog) (w := X.w) (A := X.A.in1) b1 (I.ok.hd hc) i1 a D.a1 us.toArray) (sd_draws (prog := X.prog) (w := X.w) (A := X.A.in1) b2 (I.ok.hd hc) i2 c D.c2 ws.toArray) qz qI qO ⟨q1, d1⟩ ⟨q2, d2⟩ h1 h2 fun v1 v2 h' tk e1 e2 z' O' n1 n2 T' hsz hk => ?_
    have ev1 : v1 = u := Option.some.inj (e1.symm.trans (by simpa using hu))
    have ev2 : v2 = u2 := Option.some.inj (e2.symm.trans (by simpa using hu2))
    subst ev1 ev2
    refine ⟨_, rfl, wpAny_letOwnedTupleGo_zip (s := { s with heap := h', toks := tk }) z' fun h'' z'' sb => ?_⟩
    have hT2 : h''.get? s.heap.objs.size = some { cls := .type "tuple", data := .seq #[v1, v2] } := (sb.2 _ (Nat.ne_of_gt zl)).trans T'
    have new : ObjOk X.prog X.w (upd H s.heap.objs.size (.tup [x, y])) h'' s.heap.objs.size (.tup [x, y]) :=
      ⟨by show 2 ≤ sizeLine; decide, [v1, v2], .cons ru (.cons ru2 .nil), ⟨_, hT2, rfl, _, rfl⟩⟩
    have I1 : Inv X pins σ (upd H s.heap.objs.size (.tup [x, y])) { s with heap := h'', toks := tk } :=
      I.turnedNew (t' := tk) (ch := [z, TI, TO, i1, i2]) (fun d o nd q => by
        have nn : d ≠ z ∧ d ≠ TI ∧ d ≠ TO ∧ d ≠ i1 ∧ d ≠ i2 := by simpa using nd
        exact (sb.2 d nn.1).trans (hk d o nn.1 nn.2.2.1 nn.2.2.2.1 nn.2.2.2.2 q)) hf (Nat.le_refl _) new
    refine ⟨.ref s.heap.objs.size, _, I1, rfl, ⟨_, x, y, rfl, I.hok.fresh (Nat.le_refl _), rfl, fun l hl => by rw [sd_inj I hl hqx]; exact hx, fun l hl => by rw [sd_inj I hl hqy]; exact hy⟩,
      ⟨z'', (sb.2 _ D.sep.TIz).trans (hk _ _ D.sep.TIz D.sep.TITO D.sep.TIi1 D.sep.TIi2 qI), ⟨v1, v2, (sb.2 _ D.sep.TOz).trans O'⟩,
        sd_over n1.1 fun o q => (sb.2 _ fun e => D.sep.zf1 (by rw [← e]; exact D.sep.mem1)).trans q, sd_over n2.1 fun o q => (sb.2 _ fun e => D.sep.zf2 (by rw [← e]; exact D.sep.mem2)).trans q⟩, fun d hd => ?_⟩
    have dl : d < s.heap.objs.size := by
      rcases five hd with rfl | rfl | rfl | rfl | rfl
      · exact zl
      · exact Heap.lt_size qI
      · exact Heap.lt_size qO
      · obtain ⟨_, e, _⟩ := sd_live q1
        exact Heap.lt_size e
      · obtain ⟨_, e, _⟩ := sd_live q2
        exact Heap.lt_size e
    rw [upd_ne (Nat.ne_of_lt dl)]
    exact (hf d hd).1
  done := by
    intro X hP hw hK hc i pins s σ H E I hf st hg
    subst hP hw hK
    obtain ⟨qz, qI, ⟨x0, y0, qO⟩, q1, q2⟩ := st
    obtain ⟨xs, ys, hqx, hqy, l1, l2, hend⟩ := hg
    obtain ⟨us, rv, d1, la⟩ := sd_data I hqx
    obtain ⟨ws, rv2, d2, lc⟩ := sd_data I hqy
    have m1 := rv.length
    have m2 := rv2.length
    refine wpAny_pyNext_zipD2_end D.sep (sd_draws (prog := X.prog) (w := X.w) (A := X.A.in1) b1 (I.ok.hd hc) i1 a D.a1 us.toArray) (sd_draws (prog := X.prog) (w := X.w) (A := X.A.in1) b2 (I.ok.hd hc) i2 c D.c2 ws.toArray) qz qI qO ⟨q1, d1⟩ ⟨q2, d2⟩ (by simp; omega) (by simp; omega) (by simp; omega) fun h' tk hk => ⟨rfl, ?_⟩
    exact I.turnedL (t' := tk) (ch := [z, TI, TO, i1, i2]) (fun d o nd q => by
      have nn : d ≠ z ∧ d ≠ TI ∧ d ≠ TO ∧ d ≠ i1 ∧ d ≠ i2 := by simpa using nd
      exact hk d o nn.1 nn.2.2.1 nn.2.2.2.1 nn.2.2.2.2 q) hf
  self := fun A i s Q E st h => wpAny_pyIter_zip st.1 h
def iZ (K : PySem.W.Frag) (ta : TA) (b1 b2 : Bool) : TI := fun σ H R => ta σ H fun vs H1 => ∃ a c xs ys, vs = [.ref a, .ref c] ∧ Sd K b1 H1 a xs ∧ Sd K b2 H1 c ys ∧ R (ItZ K b1 b2 a c) H1
theorem piZ {X : Cx} {e e2 : Expr} {ta : TA} {p pos tpos : Pos} {elts : List Expr} {kk : Nat} (b1 b2 : Bool) (hg : Gl X "zip") (hm : X.mg "zip" = none) (ha : PA X [e, e2] ta)
    (hs : starEach [e, e2] X.env = (false, eval e X.env) :: starEach [e2] X.env := by rfl) (hpl : (backTo pos (starEach [e2] X.env)).any (·.1) = false := by rfl) :
    PI X (.Tuple elts kk tpos) (.Call (.Name "zip" p) [e, e2] [] pos) (iZ X.K ta b1 b2) := by
  constructor
  intro pins s σ H R I h
  refine Call_ (ld_blt I hg hm PyProof.Rows.boot_zip (PyProof.Rows.callWith_type1 (thn (ha.run pos pins s σ H _ I h) fun us s1 hyp => ?_) hs hpl))
  obtain ⟨vs, H1, I1, r1, a, c, xs, ys, rfl, hqx, hqy, q⟩ := hyp
  match us, r1 with
  | [_, _], .cons rfl (.cons rfl .nil) =>
    obtain ⟨us, rv, d1, la⟩ := sd_data I1 hqx
    obtain ⟨ws, rv2, d2, lc⟩ := sd_data I1 hqy
    refine zip_begins2 (sd_begins b1 a us.toArray) (sd_begins b2 c ws.toArray) d1 d2 fun h' hz hTI hTO h1 h2 hsz hk => wpAny_pyIter_zip hz ?_
    refine ⟨s1.heap.objs.size + 4, [s1.heap.objs.size + 4, s1.heap.objs.size + 2, s1.heap.objs.size + 3, s1.heap.objs.size, s1.heap.objs.size + 1], _, _, H1, rfl, I1.kept (t' := s1.toks) hk,
      turnZ (b1 := b1) (b2 := b2) (apart_new la lc), ⟨hz, hTI, ⟨_, _, hTO⟩, sd_it0 h1, sd_it0 h2⟩, fun d hd => ?_, q⟩
    have hle : s1.heap.objs.size ≤ d := by
      rcases five hd with z | z | z | z | z <;> rw [z]
      · exact Nat.le_add_right _ _
      · exact Nat.le_add_right _ _
      · exact Nat.le_add_right _ _
      · exact Nat.le_refl _
      · exact Nat.le_add_right _ _
    exact I1.fpOk hle (I1.hok.fresh hle)
theorem walkZ {K : PySem.W.Frag} {b1 b2 : Bool} {a c : Addr} {xs ys : List V} {n : Nat} (hn : n = min xs.length ys.length) :
    Walk (ItZ K b1 b2 a c) n (fun H => Sd K b1 H a xs ∧ Sd K b2 H c ys) (YPair (fun i => xs[i]?) (fun i => ys[i]?)) := by
  subst hn
  refine ⟨fun i _ hi q => ?_, fun _ q => ⟨xs, ys, q.1, q.2, by omega, by omega, by omega⟩, fun i H v H' _ q y => ?_⟩
  · have h1 : i < xs.length := by omega
    have h2 : i < ys.length := by omega
    exact ⟨xs, ys, xs[i], ys[i], q.1, q.2, by simp [h1], by simp [h2]⟩
  · obtain ⟨T, x, z, e1, e2, e3, e4, e5⟩ := y
    exact ⟨T, x, z, e1, e2, e3, e4 xs q.1, e5 ys q.2⟩

/-! ### enumerate -/
def ItE (K : PySem.W.Frag) (b : Bool) (a : Addr) : It :=
  ⟨fun i H => ∃ (xs : List V) (x : V), Sd K b H a xs ∧ xs[i]? = some x,
    fun i H v H' => ∃ T x, v = .ref T ∧ H T = none ∧ H' = upd H T (.tup [.int (i : Nat), x]) ∧ ∀ xs, Sd K b H a xs → xs[i]? = some x,
    fun i H => ∃ xs : List V, Sd K b H a xs ∧ xs.length = i⟩
def ESt (b : Bool) (e it a : Addr) (i : Nat) (h : Heap) : Prop := (∃ old, IsEnum h e it (i : Int) old) ∧ SdIt b h it a i
theorem turnE {P : Program} {w : World} {K : PySem.W.Frag} {elts : List Expr} {kk : Nat} {tpos : Pos} {b : Bool} {a e it : Addr} (ne : e ≠ it) (nea : e ≠ a) (nia : a ≠ it) :
    Turn P w K (.Tuple elts kk tpos) (ItE K b a) [e, it] e (ESt b e it a) where
  mem := List.mem_cons_self ..
  obj := by
    intro i h st d hd
    obtain ⟨⟨old, qe⟩, q1⟩ := st
    have hd' : d = e ∨ d = it := by simpa using hd
    rcases hd' with rfl | rfl
    · exact ⟨_, qe, fun v q => nomatch q⟩
    · exact sd_live q1
  keep := by
    intro i h h' st k
    obtain ⟨⟨old, qe⟩, q1⟩ := st
    exact ⟨⟨old, k e (by simp) _ qe⟩, sd_over q1 fun o z => k it (by simp) o z⟩
  item := by
    intro X hP hw hK hc i pins s σ H E I hf st hg
    subst hP hw hK
    obtain ⟨⟨old, qe⟩, q1⟩ := st
    obtain ⟨xs, x, hqx, hx⟩ := hg
    obtain ⟨us, rv, d1, la⟩ := sd_data I hqx
    obtain ⟨u, hu, ru⟩ := rv.get hx
    have h1 : i < us.toArray.size := by
      obtain ⟨q, _⟩ := List.getElem?_eq_some_iff.mp hu
      simpa using q
    have el : e < s.heap.objs.size := Heap.lt_size qe
    refine wpAny_pyNext_enum_itemC (sd_draws (prog := X.prog) (w := X.w) (A := X.A.in1) b (I.ok.hd hc) it a nia us.toArray) qe ⟨q1, d1⟩ h1 ne (by simp [ne, nea]) fun v h' tk e1 o' n1 T' hsz hk => ?_
    have ev : v = u := Option.some.inj (e1.symm.trans (by simpa using hu))
    subst ev
    refine ⟨_, rfl, wpAny_letOwnedTupleGo_enum (s := { s with heap := h', toks := tk + 1 }) o' fun h'' e'' sb => ?_⟩
    have hT2 : h''.get? s.heap.objs.size = some { cls := .type "tuple", data := .seq #[.int i tk, v] } := (sb.2 _ (Nat.ne_of_gt el)).trans T'
    have new : ObjOk X.prog X.w (upd H s.heap.objs.size (.tup [.int (i : Nat), x])) h'' s.heap.objs.size (.tup [.int (i : Nat), x]) :=
      ⟨by show 2 ≤ sizeLine; decide, [.int i tk, v], .cons ⟨_, rfl⟩ (.cons ru .nil), ⟨_, hT2, rfl, _, rfl⟩⟩
    have I1 : Inv X pins σ (upd H s.heap.objs.size (.tup [.int (i : Nat), x])) { s with heap := h'', toks := tk + 1 } :=
      I.turnedNew (t' := tk + 1) (ch := [e, it]) (fun d o nd q => by
        have nn : d ≠ e ∧ d ≠ it := by simpa using nd
        exact (sb.2 d nn.1).trans (hk d o nn.1 nn.2 q)) hf (Nat.le_refl _) new
    refine ⟨.ref s.heap.objs.size, _, I1, rfl, ⟨_, x, rfl, I.hok.fresh (Nat.le_refl _), rfl, fun l hl => by rw [sd_inj I hl hqx]; exact hx⟩,
      ⟨⟨v, ?_⟩, sd_over n1.1 fun o q => (sb.2 _ (Ne.symm ne)).trans q⟩, fun d hd => ?_⟩
    · have e1 : ((i + 1 : Nat) : Int) = (i : Int) + 1 := by omega
      rw [e1]
      exact e''
    · have dl : d < s.heap.objs.size := by
        have hd' : d = e ∨ d = it := by simpa using hd
        rcases hd' with rfl | rfl
        · exact el
        · obtain ⟨_, z, _⟩ := sd_live q1
          exact Heap.lt_size z
      rw [upd_ne (Nat.ne_of_lt dl)]
      exact (hf d hd).1
  done := by
    intro X hP hw hK hc i pins s σ H E I hf st hg
    subst hP hw hK
    obtain ⟨⟨old, qe⟩, q1⟩ := st
    obtain ⟨xs, hqx, l1⟩ := hg
    obtain ⟨us, rv, d1, la⟩ := sd_data I hqx
    have m1 := rv.length
    have ei : i = us.toArray.size := by simp; omega
    subst ei
    refine wpAny_pyNext_enum_endD (sd_draws (prog := X.prog) (w := X.w) (A := X.A.in1) b (I.ok.hd hc) it a nia us.toArray) qe ⟨q1, d1⟩ fun h' hk => ⟨rfl, ?_⟩
    exact I.turnedL (t' := s.toks) (ch := [e, it]) (fun d o nd q => by
      have nn : d ≠ e ∧ d ≠ it := by simpa using nd
      exact hk d o nn.2 q) hf
  self := fun A i s Q E st h => let ⟨⟨_, he⟩, _⟩ := st; wpAny_pyIter_enum he h
theorem meets_enum1 {v : Value} {o : Obj} {G : Heap → Prop} (B : Begins v o G) (hv : ∀ x t, v ≠ .str x t) :
    Meets (Builtin.«enumerate.__new__» ⟨[.type "enumerate", v], []⟩) (fun _ R s => G s.heap ∧
      R (.ok (.ret (.ref (s.heap.push o).objs.size))) { s with heap := (s.heap.push o).push { cls := .type "enumerate", data := .fields #[.none, .bool false, .ref s.heap.objs.size, rawInt 0, .none, .none] } }) :=
  .of_wp fun prog w A R s h => by
    obtain ⟨hp, g, d, tk, os⟩ := s
    obtain ⟨h1, h⟩ := h
    have subE := sub_enumerate
    have step : ∀ {A' : Around} {E : Value → Shared → Prop} {Q : Value → Shared → Prop}, Q (.ref hp.objs.size) ⟨hp.push o, g, d, tk, os⟩ → wpAny (model prog w) A' (pyIter v) Q E ⟨hp, g, d, tk, os⟩ :=
      fun q => B.iter prog w _ _ ⟨hp, g, d, tk, os⟩ _ h1 q
    wp_walk using step
    refine wpAny_stack_any fun st => wpAny_pure ?_
    split
    · rename_i c _ _ _ _ _
      cases (c == Value.type "enumerate") <;> (wp_walk using step; exact ⟨_, rfl, h⟩)
    · wp_walk using step
      exact ⟨_, rfl, h⟩
theorem enum_starts {prog : Program} {w : World} {A : Around} {E : Value → Shared → Prop} {s : Shared} {v : Value} {o : Obj} {G : Heap → Prop} {Q : Value → Shared → Prop} (B : Begins v o G) (hv : ∀ x t, v ≠ .str x t) (h1 : G s.heap)
    (h : ∀ h', IsEnum h' (s.heap.objs.size + 1) s.heap.objs.size 0 .none → h'.get? s.heap.objs.size = some o → (∀ b u, s.heap.get? b = some u → h'.get? b = some u) → Q (.ref (s.heap.objs.size + 1)) { s with heap := h' }) :
    wpAny (model prog w) A (call (.type "enumerate") [v]) Q E s := by
  refine callType_new F.called_enumerate (by decide) (F.typeCall_enumerate_1 _) (F.newCall_enumerate_1 _) (fun obj => F.args_object_init_2 obj _) F.entry_enumerate_new
    (meets_enum1 B hv) ⟨h1, ?_⟩
  have hz : (s.heap.push o).objs.size = s.heap.objs.size + 1 := Heap.size_push ..
  show _ ∧ _
  rw [hz]
  have he := Heap.get?_push_size (s.heap.push o) (o := { cls := .type "enumerate", data := .fields #[.none, .bool false, .ref s.heap.objs.size, rawInt 0, .none, .none] }) rfl
  rw [hz] at he
  exact ⟨⟨_, he, rfl⟩, h _ he (Heap.get?_push_of_some _ (Heap.get?_push_size _ B.free)) fun b u x => Heap.get?_push_of_some _ (Heap.get?_push_of_some _ x)⟩
def iE (K : PySem.W.Frag) (ta : TA) (b : Bool) : TI := fun σ H R => ta σ H fun vs H1 => ∃ a xs, vs = [.ref a] ∧ Sd K b H1 a xs ∧ R (ItE K b a) H1
theorem piE {X : Cx} {e : Expr} {ta : TA} {p pos tpos : Pos} {elts : List Expr} {kk : Nat} (b : Bool) (hg : Gl X "enumerate") (hm : X.mg "enumerate" = none) (ha : PA X [e] ta) (hs : starEach [e] X.env = [(false, eval e X.env)] := by rfl) :
    PI X (.Tuple elts kk tpos) (.Call (.Name "enumerate" p) [e] [] pos) (iE X.K ta b) := by
  constructor
  intro pins s σ H R I h
  refine Call_ (ld_blt I hg hm boot_enumerate (PyProof.Rows.callWith_type1 (thn (ha.run pos pins s σ H _ I h) fun us s1 hyp => ?_) hs rfl))
  obtain ⟨vs, H1, I1, r1, a, xs, rfl, hqx, q⟩ := hyp
  match us, r1 with
  | [_], .cons rfl .nil =>
    obtain ⟨us, rv, d1, la⟩ := sd_data I1 hqx
    refine enum_starts (sd_begins b a us.toArray) (fun _ _ z => by cases z) d1 fun h' he hi hk => wpAny_pyIter_enum he ?_
    refine ⟨s1.heap.objs.size + 1, [s1.heap.objs.size + 1, s1.heap.objs.size], _, _, H1, rfl, I1.kept (t' := s1.toks) hk,
      turnE (b := b) (a := a) (Nat.succ_ne_self _) (Nat.ne_of_gt (Nat.lt_succ_of_lt la)) (Nat.ne_of_lt la), ⟨⟨.none, he⟩, sd_it0 hi⟩, fun d hd => ?_, q⟩
    have hd' : d = s1.heap.objs.size + 1 ∨ d = s1.heap.objs.size := by simpa using hd
    have hle : s1.heap.objs.size ≤ d := by
      rcases hd' with z | z <;> rw [z]
      · exact Nat.le_add_right _ _
      · exact Nat.le_refl _
    exact I1.fpOk hle (I1.hok.fresh hle)
theorem walkE {K : PySem.W.Frag} {b : Bool} {a : Addr} {xs : List V} :
    Walk (ItE K b a) xs.length (fun H => Sd K b H a xs) (YPair (fun i => some (.int (i : Nat))) (fun i => xs[i]?)) := by
  refine ⟨fun i _ hi q => ⟨xs, xs[i], q, by simp [hi]⟩, fun _ q => ⟨xs, q, rfl⟩, fun i H v H' _ q y => ?_⟩
  obtain ⟨T, x, e1, e2, e3, e4⟩ := y
  exact ⟨T, .int (i : Nat), x, e1, e2, e3, rfl, e4 xs q⟩
end LW

namespace LW
open PySem PySem.Spec PyProof.Rows L2

/-- the built-in names that the texts use are still the built-in ones -/
structure Bl (mg : Str → Option Value) : Prop where
  len : mg "len" = none
  range : mg "range" = none
  zip : mg "zip" = none
  enumerate : mg "enumerate" = none
  sum : mg "sum" = none
  all : mg "all" = none
  tuple : mg "tuple" = none
  list : mg "list" = none
  isinstance : mg "isinstance" = none
  int : mg "int" = none
  bool : mg "bool" = none
  str : mg "str" = none
  type : mg "type" = none

theorem tupS {K : PySem.W.Frag} {H H' : Hp} {a : Addr} {xs : List V} (e : Same H H') (h : SqT K H a xs) : SqT K H' a xs := by
  rcases h with (h | ⟨o, h⟩) | h
  · exact .inl (.inl (e _ _ h))
  · exact .inl (.inr ⟨o, e _ _ h⟩)
  · exact .inr h
theorem sameNew {H : Hp} {p : Addr} {o : HO} (h : H p = none) : Same H (upd H p o) := fun b x e => by
  rw [upd_ne (ne_of_none e h)]
  exact e
/-- H0 is kept though an object that it does not know changes -/
theorem sameMut {H0 H : Hp} {p : Addr} {o : HO} (s : Same H0 H) (h : H0 p = none) : Same H0 (upd H p o) := fun b x e => by
  rw [upd_ne (ne_of_none e h)]
  exact s b x e

/-! ### sums -/
abbrev Sm := List Int × Int
/-- at v stands the sum s -/
def SumIn (K : PySem.W.Frag) (H : Hp) (v : V) (s : Sm) : Prop := ∃ a t, v = .ref a ∧ SqT K H a [.ref t, .int s.2] ∧ SqT K H t (s.1.map V.int)
theorem SumIn.mono {K : PySem.W.Frag} {H H' : Hp} {v : V} {s : Sm} (e : Same H H') (h : SumIn K H v s) : SumIn K H' v s := by
  obtain ⟨a, t, rfl, h1, h2⟩ := h
  exact ⟨a, t, rfl, tupS e h1, tupS e h2⟩
def dot : List Int → List Int → Int
  | a :: r, b :: t => a * b + dot r t
  | _, _ => 0
def val (s : Sm) (xs : List Int) : Int := s.2 + dot s.1 xs
/-- below 2 ^ n in size -/
def Wd (n : Nat) (i : Int) : Prop := i.natAbs < 2 ^ n
theorem Wd.mono {n m : Nat} {i : Int} (h : Wd n i) (l : n ≤ m) : Wd m i := Nat.lt_of_lt_of_le h (Nat.pow_le_pow_right (by decide) l)
theorem Wd.mulOk {n m : Nat} {i j : Int} (h : Wd n i) (h' : Wd m j) (a : 0 < n) (b : 0 < m) (l : n + m ≤ 1000000) : CMulW i j := wide_mul h h' a b l
theorem Wd.mul {n m : Nat} {i j : Int} (h : Wd n i) (h' : Wd m j) : Wd (n + m) (i * j) := wide_lt h h'
theorem Wd.add {n : Nat} {i j : Int} (h : Wd n i) (h' : Wd n j) : Wd (n + 1) (i + j) := by
  have a : i.natAbs < 2 ^ n := h
  have b : j.natAbs < 2 ^ n := h'
  show (i + j).natAbs < 2 ^ (n + 1)
  rw [Nat.pow_succ]
  omega

/-- zipped lists of ints -/
theorem dot_take {a b : List Int} {i : Nat} {x y : Int} (ha : a[i]? = some x) (hb : b[i]? = some y) : dot (a.take (i + 1)) (b.take (i + 1)) = dot (a.take i) (b.take i) + x * y := by
  induction a generalizing b i with
  | nil => simp at ha
  | cons p r ih =>
    cases b with
    | nil => simp at hb
    | cons q t =>
      cases i with
      | zero =>
        simp at ha hb
        subst ha hb
        simp [dot]
      | succ i =>
        have e := ih (b := t) (i := i) (by simpa using ha) (by simpa using hb)
        simp only [List.take_succ_cons, dot]
        rw [e]
        omega

/-! ### comprehensions that fill a list -/
/-- tuples (and what is locked) stand as they stood -/
def TS (H H' : Hp) : Prop := ∀ a, (∀ xs, H a = some (.tup xs) → H' a = some (.tup xs)) ∧ ∀ o u, H a = some (.frz o u) → H' a = some (.frz o u)
theorem TS.refl (H : Hp) : TS H H := fun _ => ⟨fun _ h => h, fun _ _ h => h⟩
theorem TS.trans {H H1 H2 : Hp} (a : TS H H1) (b : TS H1 H2) : TS H H2 := fun c => ⟨fun xs h => (b c).1 xs ((a c).1 xs h), fun o u h => (b c).2 o u ((a c).2 o u h)⟩
theorem tsOf {H H' : Hp} (e : Same H H') : TS H H' := fun a => ⟨fun _ h => e a _ h, fun _ _ h => e a _ h⟩
theorem tsLst {H : Hp} {D : Addr} {xs ys : List V} (h : H D = some (.lst xs)) : TS H (upd H D (.lst ys)) := fun a => by
  by_cases e : a = D
  · subst e
    exact ⟨fun _ q => (by rw [h] at q; cases q), fun _ _ q => (by rw [h] at q; cases q)⟩
  · exact ⟨fun _ q => by rw [upd_ne e]; exact q, fun _ _ q => by rw [upd_ne e]; exact q⟩
theorem tsTup {K : PySem.W.Frag} {H H' : Hp} {a : Addr} {xs : List V} (e : TS H H') (h : SqT K H a xs) : SqT K H' a xs := by
  rcases h with (h | ⟨o, h⟩) | h
  · exact .inl (.inl ((e a).1 _ h))
  · exact .inl (.inr ⟨o, (e a).2 _ _ h⟩)
  · exact .inr h
theorem tsSum {K : PySem.W.Frag} {H H' : Hp} {v : V} {s : Sm} (e : TS H H') (h : SumIn K H v s) : SumIn K H' v s := by
  obtain ⟨a, t, rfl, h1, h2⟩ := h
  exact ⟨a, t, rfl, tsTup e h1, tsTup e h2⟩
def Stable (R : Nat → V → Hp → Prop) : Prop := ∀ j y H H', TS H H' → R j y H → R j y H'
/-- i items made, each as R says, H0 kept -/
def Made (H0 : Hp) (D : Addr) (R : Nat → V → Hp → Prop) (i : Nat) (H : Hp) : Prop :=
  ∃ ys : List V, ys.length = i ∧ H D = some (.lst ys) ∧ Same H0 H ∧ ∀ j y, ys[j]? = some y → R j y H
theorem made0 {H0 : Hp} {D : Addr} {R : Nat → V → Hp → Prop} (h : H0 D = none) : Made H0 D R 0 (upd H0 D (.lst [])) :=
  ⟨[], rfl, upd_same, sameNew h, fun j y e => by simp at e⟩
theorem Made.push {H0 H H4 : Hp} {D : Addr} {R : Nat → V → Hp → Prop} {i : Nat} {y : V} (m : Made H0 D R i H) (hD : H0 D = none) (st : Stable R) (hi : i < 100000) (e : Same H H4) (r : R i y H4) :
    ∃ acc, H4 D = some (.lst acc) ∧ acc.length < sizeLine ∧ Made H0 D R (i + 1) (upd H4 D (.lst (acc ++ [y]))) := by
  obtain ⟨ys, rfl, h1, h2, h3⟩ := m
  have h4 : H4 D = some (.lst ys) := e _ _ h1
  refine ⟨ys, h4, Nat.lt_of_lt_of_le hi (by decide), ys ++ [y], by simp, upd_same, sameMut (Same.trans h2 e) hD, fun j z hz => ?_⟩
  have t : TS H4 (upd H4 D (.lst (ys ++ [y]))) := tsLst h4
  by_cases hj : j < ys.length
  · rw [List.getElem?_append_left hj] at hz
    exact st _ _ _ _ (TS.trans (tsOf e) t) (h3 j z hz)
  · rw [List.getElem?_append_right (by omega)] at hz
    have hz' : j - ys.length = 0 := by
      cases q : j - ys.length with
      | zero => rfl
      | succ n => rw [q] at hz; simp at hz
    rw [hz'] at hz
    have ez : y = z := by simpa using hz
    have ej : j = ys.length := by omega
    subst ez ej
    exact st _ _ _ _ t r
theorem Made.same {H0 H : Hp} {D : Addr} {R : Nat → V → Hp → Prop} {i : Nat} (m : Made H0 D R i H) : Same H0 H := by
  obtain ⟨_, _, _, h, _⟩ := m
  exact h
/-- items that are ints told by a function -/
def RI (f : Nat → Int) : Nat → V → Hp → Prop := fun j y _ => y = .int (f j)
theorem stRI (f : Nat → Int) : Stable (RI f) := fun _ _ _ _ _ h => h
theorem madeRI {H0 H : Hp} {D : Addr} {f : Nat → Int} {n : Nat} (m : Made H0 D (RI f) n H) : H D = some (.lst (((List.range n).map f).map V.int)) ∧ Same H0 H := by
  obtain ⟨ys, e, h1, h2, h3⟩ := m
  refine ⟨?_, h2⟩
  rw [h1]
  congr 2
  apply List.ext_getElem?
  intro j
  by_cases hj : j < n
  · have hl : j < ys.length := by omega
    have q := h3 j ys[j] (List.getElem?_eq_getElem hl)
    rw [List.getElem?_eq_getElem hl, q]
    simp [hj]
  · rw [List.getElem?_eq_none (by omega), List.getElem?_eq_none (by simp; omega)]
/-- items that are ints with a property -/
def RP (p : Nat → Int → Prop) : Nat → V → Hp → Prop := fun j y _ => ∃ i, y = .int i ∧ p j i
theorem stRP (p : Nat → Int → Prop) : Stable (RP p) := fun _ _ _ _ _ h => h
theorem madeRP {H0 H : Hp} {D : Addr} {p : Nat → Int → Prop} {n : Nat} (m : Made H0 D (RP p) n H) : ∃ ns : List Int, ns.length = n ∧ H D = some (.lst (ns.map V.int)) ∧ Same H0 H ∧ ∀ (j : Nat) (i : Int), ns[j]? = some i → p j i := by
  obtain ⟨ys, e, h1, h2, h3⟩ := m
  have key : ∀ (l : List V) (k : Nat), (∀ j y, l[j]? = some y → ∃ i, y = .int i ∧ p (k + j) i) → ∃ ns : List Int, l = ns.map V.int ∧ ∀ (j : Nat) (i : Int), ns[j]? = some i → p (k + j) i := by
    intro l
    induction l with
    | nil => exact fun k _ => ⟨[], rfl, fun j i h => by simp at h⟩
    | cons y r ih =>
      intro k h
      obtain ⟨i, e1, p1⟩ := h 0 y rfl
      obtain ⟨ns, e2, p2⟩ := ih (k + 1) fun j z hz => by
        have q := h (j + 1) z (by simpa using hz)
        rw [show k + 1 + j = k + (j + 1) by omega]
        exact q
      refine ⟨i :: ns, by rw [e1, e2]; rfl, fun j z hz => ?_⟩
      cases j with
      | zero =>
        have : i = z := by simpa using hz
        subst this
        exact p1
      | succ j =>
        have q := p2 j z (by simpa using hz)
        rw [show k + (j + 1) = k + 1 + j by omega]
        exact q
  obtain ⟨ns, rfl, hp⟩ := key ys 0 fun j y hy => by
    obtain ⟨i, q1, q2⟩ := h3 j y hy
    exact ⟨i, q1, by rw [Nat.zero_add]; exact q2⟩
  refine ⟨ns, by simpa using e, h1, h2, fun j i h => ?_⟩
  have q := hp j i h
  rwa [Nat.zero_add] at q

theorem dot_sum (a b : List Int) (h : a.length = b.length) : dot a b = ((List.range a.length).map fun i => (a[i]?.getD 0) * (b[i]?.getD 0)).sum := by
  induction a generalizing b with
  | nil => rfl
  | cons x r ih =>
    cases b with
    | nil => simp at h
    | cons y t =>
      have e := ih t (by simpa using h)
      rw [List.length_cons, List.range_succ_eq_map, List.map_cons, List.sum_cons, List.map_map]
      simp only [dot, e]
      congr 1

/-! ### targets within a comprehension: without defaults, so that what is wanted is known first -/
theorem pgN {X : Cx} {i : Nat} {x : Str} {pos : Pos} (hN : X.N.Nodup) (hi : X.N[i]? = some x) (hx : Loc X.env.scope x) (hf : X.fn x = true ∨ X.env.scope.names.lookup x = some .local) : PG X (.Name x pos) (gName i) := pg_name hN hi hx hf
theorem pgT2 {X : Cx} {K : PySem.W.Frag} {e1 e2 : Expr} {k : Nat} {pos : Pos} {t u : TG} (hK : X.K = K) (h1 : PG X e1 t) (h2 : PG X e2 u) (hc : X.calm = true)
    (a : (assignEach [e1, e2] X.env).map (·.2) = assign e1 X.env :: (assignEach [e2] X.env).map (·.2)) (b : (assignEach [e2] X.env).map (·.2) = assign e2 X.env :: (assignEach [] X.env).map (·.2))
    (hn : (assignEach [e1, e2] X.env).length = 2) (hst : (assignEach [e1, e2] X.env).findIdx? (·.1) = none) : PG X (.Tuple [e1, e2] k pos) (gTup K 2 (gCons t (gCons u gNil))) := by
  subst hK
  exact pg_tup hc (pgs_cons h1 (pgs_cons h2 pgs_nil b) a) hn hst

/-! ### the rules with the written part named -/
section
variable {X : Cx} {K : PySem.W.Frag}
def rLenK (K : PySem.W.Frag) : List V → Hp → VK → Prop := fun xs H Q => ∃ p ys, xs = [.ref p] ∧ (SqL K H p ys ∨ SqT K H p ys) ∧ Q (.int (ys.length : Nat)) H
def rListK (K : PySem.W.Frag) : List V → Hp → VK → Prop := fun xs H Q => ∃ p ys, xs = [.ref p] ∧ (SqL K H p ys ∨ SqT K H p ys) ∧ ∀ l, H l = none → Q (.ref l) (upd H l (.lst ys))
def rTupK (K : PySem.W.Frag) : List V → Hp → VK → Prop := fun xs H Q => ∃ p ys, xs = [.ref p] ∧ ((SqL K H p ys ∧ ∀ l, H l = none → Q (.ref l) (upd H l (.tup ys))) ∨ (SqT K H p ys ∧ Q (.ref p) H))
theorem kLen (h : X.K = K) : CallR X (.builtin "len") (rLenK K) := by subst h; exact call_len_seq
theorem kList (h : X.K = K) : CallR X (.type "list") (rListK K) := by subst h; exact call_list_of
theorem kTup (h : X.K = K) : CallR X (.type "tuple") (rTupK K) := by subst h; exact call_tuple_of
theorem kSum (h : X.K = K) (hc : X.calm = true) : CallR X (.builtin "sum") (rSum K) := by subst h; exact cr_sum hc
theorem kAll (h : X.K = K) (hc : X.calm = true) : CallR X (.builtin "all") (rAll K) := by subst h; exact cr_all hc
theorem kIsi (h : X.K = K) : CallR X (.builtin "isinstance") (rIsi K) := by subst h; exact call_isi
theorem kIxL (h : X.K = K) : IxR X (rIxL K) := by subst h; exact ix_list
theorem kIxT (h : X.K = K) : IxR X (rIxT K) := by subst h; exact ix_tup
theorem kSlL (h : X.K = K) : SlR X (rSlL K) := by subst h; exact sl_list
theorem kSlT (h : X.K = K) : SlR X (rSlA K) := by subst h; exact sl_tupA
theorem kCatT (h : X.K = K) : OpR X (binaryOp .Add) (rCatA K) := by subst h; exact op_catA
theorem kRepT (h : X.K = K) : OpR X (binaryOp .Mult) (rRepT K) := by subst h; exact op_repT
theorem kIn (h : X.K = K) : OpR X (compareOp .In) (rIn K false) := by subst h; exact op_in_seq
theorem kNotIn (h : X.K = K) : OpR X (compareOp .NotIn) (rIn K true) := by subst h; exact op_notIn_seq
theorem kEqD (h : X.K = K) (hu : X.A.units + 64 < cLine) : OpR X (compareOp .Eq) (rEqD K) := by subst h; exact op_eqD hu
theorem kNeD (h : X.K = K) (hu : X.A.units + 64 < cLine) : OpR X (compareOp .NotEq) (rNeD K) := by subst h; exact op_neD hu
theorem kList_ {tg l : Expr} {tl : TE} (h : X.K = K) (hl : PE X l tl) : PI X tg l (iList K tl) := by subst h; exact pi_list hl
theorem kTup_ {tg l : Expr} {tl : TE} (h : X.K = K) (hl : PE X l tl) : PI X tg l (iTup K tl) := by subst h; exact pi_tup hl
theorem kZ {e e2 : Expr} {ta : TA} {p pos tpos : Pos} {elts : List Expr} {kk : Nat} (h : X.K = K) (b1 b2 : Bool) (hg : Gl X "zip") (hm : X.mg "zip" = none) (ha : PA X [e, e2] ta)
    (hs : starEach [e, e2] X.env = (false, eval e X.env) :: starEach [e2] X.env := by rfl) (hpl : (backTo pos (starEach [e2] X.env)).any (·.1) = false := by rfl) :
    PI X (.Tuple elts kk tpos) (.Call (.Name "zip" p) [e, e2] [] pos) (iZ K ta b1 b2) := by subst h; exact piZ b1 b2 hg hm ha hs hpl
theorem kE {e : Expr} {ta : TA} {p pos tpos : Pos} {elts : List Expr} {kk : Nat} (h : X.K = K) (b : Bool) (hg : Gl X "enumerate") (hm : X.mg "enumerate" = none) (ha : PA X [e] ta) (hs : starEach [e] X.env = [(false, eval e X.env)] := by rfl) :
    PI X (.Tuple elts kk tpos) (.Call (.Name "enumerate" p) [e] [] pos) (iE K ta b) := by subst h; exact piE b hg hm ha hs
theorem kT2 {e1 e2 : Expr} {k : Nat} {pos : Pos} {t u : TG} (h : X.K = K) (hc : X.calm = true) (h1 : PG X e1 t) (h2 : PG X e2 u)
    (a : (assignEach [e1, e2] X.env).map (·.2) = assign e1 X.env :: (assignEach [e2] X.env).map (·.2) := by rfl) (b : (assignEach [e2] X.env).map (·.2) = assign e2 X.env :: (assignEach [] X.env).map (·.2) := by rfl)
    (hn : (assignEach [e1, e2] X.env).length = 2 := by rfl) (hst : (assignEach [e1, e2] X.env).findIdx? (·.1) = none := by rfl) : PG X (.Tuple [e1, e2] k pos) (gTup K 2 (gCons t (gCons u gNil))) := by
  subst h
  exact pg_tup hc (pgs_cons h1 (pgs_cons h2 pgs_nil b) a) hn hst
theorem kApp (h : X.K = K) {o : Expr} {es : List Expr} {e : Expr} {to : TE} {t : TA} {apos cpos : Pos} (ho : PE X o to) (ha : PA X [e] t) (hh : PE X (.Call (.Attribute o "append" apos) [e] [] cpos) (tBM X.K "list" rAppend to t)) : PE X (.Call (.Attribute o "append" apos) [e] [] cpos) (tBM K "list" rAppend to t) := by subst h; exact hh
end

theorem mapAt {ns : List Int} {i : Nat} {x : V} (e : (ns.map V.int)[i]? = some x) (h : i < ns.length) : x = .int ns[i] := by
  rw [List.getElem?_map, List.getElem?_eq_getElem h] at e
  exact (Option.some.inj e).symm
theorem intAt {ns : List Int} {i : Nat} (h : i < ns.length) : (ns.map V.int)[i]? = some (.int ns[i]) := by
  rw [List.getElem?_map, List.getElem?_eq_getElem h]
  rfl

theorem lcYes {σ : L2.St} {H : Hp} {A B : Hp → Prop} (h : A H) : tYes σ H (fun b H3 => if b = true then A H3 else B H3) := by
  show (if true = true then A H else B H)
  exact iteT h

theorem tyTup {K : PySem.W.Frag} {H : Hp} {a : Addr} {xs : List V} (h : SqT K H a xs) : TyX K H (.ref a) (.type "tuple") := by
  rcases h with (h | ⟨o, h⟩) | ⟨o, its, n, h, hc, _⟩
  · exact .base (.tup h)
  · exact .fTuple h
  · exact .kTuple h hc
theorem tyLst {K : PySem.W.Frag} {H : Hp} {a : Addr} {xs : List V} (h : SqL K H a xs) : TyX K H (.ref a) (.type "list") := by
  rcases h with (h | ⟨o, h⟩) | ⟨o, its, n, h, hc, _⟩
  · exact .base (.lst h)
  · exact .base (.frz h)
  · exact .kList h hc

/-- the list of values vs: the sums ss -/
def SumsIn (K : PySem.W.Frag) (H : Hp) (vs : List V) (ss : List Sm) : Prop := Paired (SumIn K H) vs ss
theorem SumsIn.len {K : PySem.W.Frag} {H : Hp} {vs : List V} {ss : List Sm} (h : SumsIn K H vs ss) : vs.length = ss.length := Paired.length h
theorem sumsAt {K : PySem.W.Frag} {H : Hp} : ∀ {vs : List V} {ss : List Sm} {i : Nat} {v : V} (_ : SumsIn K H vs ss) (_ : vs[i]? = some v), ∃ s, ss[i]? = some s ∧ SumIn K H v s
  | _, _, _, _, .nil, e => by simp at e
  | _, _, 0, _, .cons r _, e => by
    simp at e
    subst e
    exact ⟨_, rfl, r⟩
  | _, _, i + 1, v, .cons _ t, e => by
    obtain ⟨s, h1, h2⟩ := sumsAt (i := i) t (by simpa using e)
    exact ⟨s, by simpa using h1, h2⟩
theorem tsSums {K : PySem.W.Frag} {H H' : Hp} (e : TS H H') {vs : List V} {ss : List Sm} (h : SumsIn K H vs ss) : SumsIn K H' vs ss := Paired.mapP h fun _ _ r => tsSum e r

/-! ### bounds -/
theorem dotWd {n m : Nat} : ∀ {a b : List Int}, (∀ x ∈ a, Wd n x) → (∀ y ∈ b, Wd m y) → Wd (n + m + a.length) (dot a b)
  | [], _, _, _ => by
    show (0 : Int).natAbs < _
    exact Nat.two_pow_pos _
  | _ :: _, [], _, _ => by
    show (0 : Int).natAbs < _
    exact Nat.two_pow_pos _
  | x :: r, y :: t, h, h' => by
    have ih := dotWd (a := r) (b := t) (fun z hz => h z (List.mem_cons_of_mem _ hz)) (fun z hz => h' z (List.mem_cons_of_mem _ hz))
    exact Wd.add (n := n + m + r.length) (Wd.mono (Wd.mul (h x (List.mem_cons_self ..)) (h' y (List.mem_cons_self ..))) (by omega)) ih
theorem sumWd {n : Nat} : ∀ {a : List Int}, (∀ x ∈ a, Wd n x) → Wd (n + a.length) a.sum
  | [], _ => by
    show (0 : Int).natAbs < _
    exact Nat.two_pow_pos _
  | x :: r, h => by
    have ih := sumWd (a := r) fun z hz => h z (List.mem_cons_of_mem _ hz)
    rw [List.sum_cons]
    exact Wd.add (n := n + r.length) (Wd.mono (h x (List.mem_cons_self ..)) (by omega)) ih
theorem valWd {n m : Nat} {s : Sm} {xs : List Int} (h : ∀ x ∈ s.1, Wd n x) (h2 : Wd n s.2) (h' : ∀ y ∈ xs, Wd m y) : Wd (n + m + s.1.length + 1) (val s xs) :=
  Wd.add (Wd.mono h2 (by omega)) (dotWd h h')

/-! ### data -/
def dI (ns : List Int) : List PyData := ns.map PyData.int
def dS (s : Sm) : PyData := .tuple [.tuple (dI s.1), .int s.2]
theorem dpInts {K : PySem.W.Frag} {H : Hp} : ∀ ns : List Int, DpAll K H (ns.map V.int) (dI ns)
  | [] => .nil
  | n :: r => .cons (.int n) (dpInts r)
theorem dpSum {K : PySem.W.Frag} {H : Hp} {v : V} {s : Sm} (h : SumIn K H v s) : Dp K H v (dS s) := by
  obtain ⟨a, t, rfl, h1, h2⟩ := h
  exact .tup h1 (.cons (.tup h2 (dpInts _)) (.cons (.int _) .nil))
theorem dpSums {K : PySem.W.Frag} {H : Hp} : ∀ {vs : List V} {ss : List Sm}, SumsIn K H vs ss → DpAll K H vs (ss.map dS)
  | _, _, .nil => .nil
  | _, _, .cons r t => .cons (dpSum r) (dpSums t)

/-- data that can be laid, at most n deep -/
def Ly (n : Nat) (d : PyData) : Prop := d.canLay0 = true ∧ d.depth ≤ n
def LyA (n : Nat) (ds : List PyData) : Prop := PyData.canLayAll0 ds = true ∧ PyData.depthAll ds ≤ n
theorem Ly.shaped {n : Nat} {d : PyData} (h : Ly n d) (l : n ≤ 64) : SeqAt.shaped d = true := by
  unfold SeqAt.shaped
  rw [h.1, decide_eq_true (Nat.le_trans h.2 l)]
  rfl
theorem Ly.same {n : Nat} {d : PyData} (h : Ly n d) : PyData.eqv d d = true := SeqAt.eqv_refl d h.1
theorem lyInt (i : Int) : Ly 1 (.int i) := ⟨by simp [PyData.canLay0], by simp [PyData.depth]⟩
theorem lyNil (n : Nat) : LyA n [] := ⟨by simp [PyData.canLayAll0], by simp [PyData.depthAll]⟩
theorem lyCons {n : Nat} {d : PyData} {ds : List PyData} (h : Ly n d) (h' : LyA n ds) : LyA n (d :: ds) := by
  refine ⟨?_, ?_⟩
  · simp [PyData.canLayAll0, h.1, h'.1]
  · have a := h.2
    have b := h'.2
    simp [PyData.depthAll]
    omega
theorem lyTup {n : Nat} {ds : List PyData} (h : LyA n ds) : Ly (n + 1) (.tuple ds) := by
  refine ⟨by simp [PyData.canLay0, h.1], ?_⟩
  have b := h.2
  simp [PyData.depth]
  omega
theorem lyLst {n : Nat} {ds : List PyData} (h : LyA n ds) : Ly (n + 1) (.list ds) := by
  refine ⟨by simp [PyData.canLay0, h.1], ?_⟩
  have b := h.2
  simp [PyData.depth]
  omega
theorem Ly.up {n m : Nat} {d : PyData} (h : Ly n d) (l : n ≤ m) : Ly m d := ⟨h.1, Nat.le_trans h.2 l⟩
theorem lyInts : ∀ ns : List Int, LyA 1 (dI ns)
  | [] => lyNil 1
  | n :: r => lyCons (lyInt n) (lyInts r)
theorem lySum (s : Sm) : Ly 3 (dS s) := lyTup (lyCons (lyTup (lyInts _)) (lyCons ((lyInt _).up (by decide)) (lyNil _)))
theorem lySums : ∀ ss : List Sm, LyA 3 (ss.map dS)
  | [] => lyNil 3
  | s :: r => lyCons (lySum s) (lySums r)

theorem pairedApp {α β : Type} {R : α → β → Prop} : ∀ {a c : List α} {b d : List β}, Paired R a b → Paired R c d → Paired R (a ++ c) (b ++ d)
  | _, _, _, _, .nil, h => h
  | _, _, _, _, .cons r t, h => .cons r (pairedApp t h)
end LW

namespace LW
open PySem PySem.Spec PyProof.Rows L2
/-! ### types compared -/
theorem slotTyNe : Slot "type" (cmpInfo .NotEq).2.1 "object.__ne__" :=
  .of (owner := "object") (n := "__ne__") (by rw [typeLookup_type, builtinLookup_eq_fast] <;> kernel_rfl) (by decide +kernel) (by decide +kernel) (by decide +kernel)
    (by first | exact .inr (by decide +kernel) | exact .inl (by decide +kernel)) (by rw [isSubtype_type] <;> kernel_rfl)
theorem slotTyNe2 : Slot "type" (cmpInfo .NotEq).2.2 "object.__ne__" := slotTyNe
section
variable {prog : Program} {w : World} {A : Around} {E : Value → Shared → Prop} {s : Shared}
theorem neSame {X : String} (hX : ∀ s' : Shared, s'.TypeIs (.type X) "type") {Q : Fin → Shared → Prop} (q : Q (.done (.ret (.bool false))) s) :
    wpAny (model prog w) A (Builtin.«object.__ne__» ⟨[.type X, .type X], []⟩) Q E s := by
  obtain ⟨hp, g, d, tk, os⟩ := s
  unfold Builtin.«object.__ne__»
  have step : ∀ {A' : Around} {R : Option Value → Shared → Prop}, R (some (.bool true)) ⟨hp, g, d, tk, os⟩ → wpAny (model prog w) A' (callSpecialIfBound? (.type X) "__eq__" [.type X]) R E ⟨hp, g, d, tk, os⟩ := fun {A' R} r =>
    wpAny_callSpecialIfBound?_slot (hX _) TypeEq.slot_type_eq (call_gives TypeEq.slot_type_eq (hX _) F.entry_object_eq (F.args_object_eq_2 _ _) (TypeEq.object_eq_same rfl (by simp)) r)
  repeat (first | with_reducible refine wpAny_cRoomFor_or (.inl rfl) ?_ | with_reducible refine step ?_ | wp_step)
  exact q
theorem neOther {X Y : String} (hX : ∀ s' : Shared, s'.TypeIs (.type X) "type") (hne : (Value.type X == Value.type Y) = false) {Q : Fin → Shared → Prop} (q : Q (.done (.ret .notImplemented)) s) :
    wpAny (model prog w) A (Builtin.«object.__ne__» ⟨[.type X, .type Y], []⟩) Q E s := by
  obtain ⟨hp, g, d, tk, os⟩ := s
  unfold Builtin.«object.__ne__»
  have step : ∀ {A' : Around} {R : Option Value → Shared → Prop}, R (some .notImplemented) ⟨hp, g, d, tk, os⟩ → wpAny (model prog w) A' (callSpecialIfBound? (.type X) "__eq__" [.type Y]) R E ⟨hp, g, d, tk, os⟩ := fun {A' R} r =>
    wpAny_callSpecialIfBound?_slot (hX _) TypeEq.slot_type_eq (call_gives TypeEq.slot_type_eq (hX _) F.entry_object_eq (F.args_object_eq_2 _ _) (TypeEq.object_eq_other rfl hne) r)
  repeat (first | with_reducible refine wpAny_cRoomFor_or (.inl rfl) ?_ | with_reducible refine step ?_ | wp_step)
  exact q
theorem neTySame {X : String} (hX : ∀ s' : Shared, s'.TypeIs (.type X) "type") {Q : Value → Shared → Prop} (q : Q (.bool false) s) : wpAny (model prog w) A (compareOp .NotEq (.type X) (.type X)) Q E s := by
  show wpAny _ A (richCompare .NotEq _ _) Q E s
  exact wpAny_richCompare_same (T := "type") (hX s) (hX s) slotTyNe (wpAny_call_entry slotTyNe (hX s) F.cmpEntry_ne (neSame hX ⟨_, rfl, (by intro e; cases e), q⟩) (F.cmpArgs_ne _ _))
theorem neTyOther {X Y : String} (hX : ∀ s' : Shared, s'.TypeIs (.type X) "type") (hY : ∀ s' : Shared, s'.TypeIs (.type Y) "type") (hne : (Value.type X == Value.type Y) = false) {Q : Value → Shared → Prop} (q : Q (.bool true) s) :
    wpAny (model prog w) A (compareOp .NotEq (.type X) (.type Y)) Q E s := by
  have hne' : (Value.type Y == Value.type X) = false := by
    rw [Bool.eq_false_iff] at hne ⊢
    exact fun e => hne (by rw [beq_iff_eq] at e ⊢; exact e.symm)
  have c1 : wpAny (model prog w) A (call (.builtin "object.__ne__") [.type X, .type Y]) (fun v s1 => v = .notImplemented ∧ s1 = s) E s :=
    wpAny_call_entry slotTyNe (hX s) F.cmpEntry_ne (neOther hX hne ⟨_, rfl, rfl, rfl⟩) (F.cmpArgs_ne _ _)
  have c2 : wpAny (model prog w) A (call (.builtin "object.__ne__") [.type Y, .type X]) (fun v s1 => v = .notImplemented ∧ s1 = s) E s :=
    wpAny_call_entry slotTyNe (hY s) F.cmpEntry_ne (neOther hY hne' ⟨_, rfl, rfl, rfl⟩) (F.cmpArgs_ne _ _)
  have t1 : ∀ {R : Option Value → Shared → Prop}, R none s → wpAny (model prog w) A (tryCompare (.type X) "__ne__" (.type Y)) R E s := fun {R} r =>
    wpAny_tryCompare_declines (hX s) slotTyNe (wpAny_mono c1 (fun v s1 h => ⟨h.1, by rw [h.2]; exact r⟩) fun _ _ z => z)
  have t2 : ∀ {R : Option Value → Shared → Prop}, R none s → wpAny (model prog w) A (tryCompare (.type Y) "__ne__" (.type X)) R E s := fun {R} r =>
    wpAny_tryCompare_declines (hY s) slotTyNe (wpAny_mono c2 (fun v s1 h => ⟨h.1, by rw [h.2]; exact r⟩) fun _ _ z => z)
  show wpAny _ A (richCompare .NotEq _ _) Q E s
  have hi : cmpInfo CmpOp.NotEq = (("!=", "__ne__", "__ne__") : String × Str × Str) := rfl
  simp only [richCompare, hi, (hX s).oneThing_none]
  try with_reducible refine wpAny_holding ?_
  refine wpAny_bind (wpAny_cRoomFor_or (.inl rfl) ?_)
  refine wpAny_bind (wpAny_typeOf (hX s) (wpAny_bind (wpAny_typeOf (hY s) ?_)))
  simp only [bne_self_eq_false, Bool.false_eq_true, if_false, pure_bind, Bool.not_false, if_true]
  refine wpAny_bind (t1 ?_)
  refine wpAny_bind (t2 ?_)
  refine wpAny_bind (wpAny_rule (wpAny_bind (wpAny_of_eq (isSame_plain rfl) (wpAny_pure ?_))))
  rw [hne]
  exact q
end

/-! ### type(x), and types as values -/
/-- the built-in types that the texts ask for -/
def tyOk (n : String) : Prop := ∀ s' : Shared, s'.TypeIs (.type n) "type"
inductive Known : String → Prop
  | int : Known "int" | str : Known "str" | bool : Known "bool" | non : Known "NoneType" | lst : Known "list" | tup : Known "tuple" | dct : Known "dict"
theorem Known.ok {n : String} (h : Known n) : tyOk n := by
  cases h
  · exact TypeEq.meta_int
  · exact TypeEq.meta_str
  · exact TypeEq.meta_bool
  · exact TypeEq.meta_NoneType
  · exact TypeEq.meta_list
  · exact TypeEq.meta_tuple
  · exact TypeEq.meta_dict
/-- the type of a value by its name -/
inductive TyN (K : PySem.W.Frag) (H : Hp) : V → String → Prop
  | non : TyN K H .non "NoneType"
  | bl (b : Bool) : TyN K H (.bl b) "bool"
  | int (i : Int) : TyN K H (.int i) "int"
  | str (x : Str) : TyN K H (.str x) "str"
  | lst {a : Addr} {xs : List V} (h : SqL K H a xs) : TyN K H (.ref a) "list"
  | tup {a : Addr} {xs : List V} (h : SqT K H a xs) : TyN K H (.ref a) "tuple"
  | dct {a : Addr} {kvs : List (Key × V)} (h : H a = some (.dK kvs)) : TyN K H (.ref a) "dict"
theorem TyN.known {K : PySem.W.Frag} {H : Hp} {x : V} {n : String} (h : TyN K H x n) : Known n := by cases h <;> constructor
def rTyN (K : PySem.W.Frag) : List V → Hp → VK → Prop := fun xs H Q => ∃ (x : V) (n : String), xs = [x] ∧ TyN K H x n ∧ Q (.ty n) H
theorem kType {X : Cx} {K : PySem.W.Frag} (h : X.K = K) : CallR X (.type "type") (rTyN K) := by
  subst h
  intro pins s σ H xs us Q I r h
  obtain ⟨x, n, rfl, t, q⟩ := h
  match us, r with
  | [u], .cons rx .nil =>
    have fin : ∀ (hx : s.TypeIs u n) (hb : (Value.type n == Value.type "builtin_function_or_method") = false), wpAny (model X.prog X.w) X.A (call (.type "type") [u]) (EP X pins σ Q) X.xe s := fun hx hb =>
      call_type_of hx hb ⟨.ty n, H, I, rfl, q⟩
    cases t with
    | non => cases rx; exact fin rfl (by decide +kernel)
    | bl b => cases rx; exact fin rfl (by decide +kernel)
    | int i => obtain ⟨k, rfl⟩ := rx; exact fin (typeIs_int s i k) (by decide +kernel)
    | str z => obtain ⟨k, rfl⟩ := rx; exact fin (typeIs_str s z k) (by decide +kernel)
    | lst e => cases rx; obtain ⟨_, _, p, _⟩ := I.list e; exact fin p.isList.typeIs (by decide +kernel)
    | tup e => cases rx; obtain ⟨_, _, p, _⟩ := I.tuple e; exact fin p.typeIs (by decide +kernel)
    | dct e => cases rx; obtain ⟨_, _, _, _, o, _, _, e1, e2, _⟩ := I.hok _ _ e; exact fin ⟨o, e1, e2.1⟩ (by decide +kernel)
def rEqTy : R2 := fun x y H Q => ∃ a b, x = .ty a ∧ y = .ty b ∧ Known a ∧ Known b ∧ Q (.bl (decide (a = b))) H
def rNeTy : R2 := fun x y H Q => ∃ a b, x = .ty a ∧ y = .ty b ∧ Known a ∧ Known b ∧ Q (.bl (!decide (a = b))) H
theorem tyDiff {a b : String} (h : ¬ a = b) : (Value.type a == Value.type b) = false := by
  rw [Bool.eq_false_iff]
  intro e
  rw [beq_iff_eq] at e
  cases e
  exact h rfl
theorem kEqTy {X : Cx} : OpR X (compareOp .Eq) rEqTy := by
  intro pins s σ H x y v u Q I rx ry h
  obtain ⟨a, b, rfl, rfl, ka, kb, q⟩ := h
  cases rx
  cases ry
  by_cases e : a = b
  · subst e
    exact TypeEq.eq_type_same ka.ok ⟨.bl true, H, I, rfl, by rw [decide_eq_true rfl] at q; exact q⟩
  · exact TypeEq.eq_type_other ka.ok kb.ok (tyDiff e) ⟨.bl false, H, I, rfl, by rw [decide_eq_false e] at q; exact q⟩
theorem kNeTy {X : Cx} : OpR X (compareOp .NotEq) rNeTy := by
  intro pins s σ H x y v u Q I rx ry h
  obtain ⟨a, b, rfl, rfl, ka, kb, q⟩ := h
  cases rx
  cases ry
  by_cases e : a = b
  · subst e
    exact neTySame ka.ok ⟨.bl false, H, I, rfl, by rw [decide_eq_true rfl] at q; exact q⟩
  · exact neTyOther ka.ok kb.ok (tyDiff e) ⟨.bl true, H, I, rfl, by rw [decide_eq_false e] at q; exact q⟩
end LW

namespace LW
open PySem PySem.Spec PyProof.Rows L2
/-! ### data that a program may be made of -/
inductive D where
  | non | bl (b : Bool) | int (i : Int) | str (s : Str) | lst | dct | tup (ds : List D)
mutual
inductive Din (K : PySem.W.Frag) (H : Hp) : V → D → Prop
  | non : Din K H .non .non
  | bl (b : Bool) : Din K H (.bl b) (.bl b)
  | int (i : Int) : Din K H (.int i) (.int i)
  | str (s : Str) : Din K H (.str s) (.str s)
  | lst {a : Addr} {xs : List V} (h : SqL K H a xs) : Din K H (.ref a) .lst
  | dct {a : Addr} {kvs : List (Key × V)} (h : H a = some (.dK kvs)) : Din K H (.ref a) .dct
  | tup {a : Addr} {xs : List V} {ds : List D} (h : SqT K H a xs) (t : DinA K H xs ds) : Din K H (.ref a) (.tup ds)
inductive DinA (K : PySem.W.Frag) (H : Hp) : List V → List D → Prop
  | nil : DinA K H [] []
  | cons {v : V} {vs : List V} {d : D} {ds : List D} (h : Din K H v d) (t : DinA K H vs ds) : DinA K H (v :: vs) (d :: ds)
end
mutual
/-- without lists and dicts -/
def D.pure : D → Bool
  | .lst => false
  | .dct => false
  | .tup ds => D.pures ds
  | _ => true
def D.pures : List D → Bool
  | [] => true
  | d :: r => D.pure d && D.pures r
end
section
variable {K : PySem.W.Frag} {H H' : Hp}
mutual
theorem dinSame (e : Same H H') : ∀ {d : D} {v : V}, Din K H v d → Din K H' v d
  | .non, _, .non => .non
  | .bl _, _, .bl b => .bl b
  | .int _, _, .int i => .int i
  | .str _, _, .str s => .str s
  | .lst, _, .lst h => .lst (Same.seq e h)
  | .dct, _, .dct h => .dct (e _ _ h)
  | .tup ds, _, .tup h t => .tup (tupS e h) (dinASame e t)
theorem dinASame (e : Same H H') : ∀ {ds : List D} {vs : List V}, DinA K H vs ds → DinA K H' vs ds
  | [], _, .nil => .nil
  | _ :: _, _, .cons h t => .cons (dinSame e h) (dinASame e t)
end
mutual
theorem dinTS (e : TS H H') : ∀ {d : D} {v : V}, d.pure = true → Din K H v d → Din K H' v d
  | .non, _, _, .non => .non
  | .bl _, _, _, .bl b => .bl b
  | .int _, _, _, .int i => .int i
  | .str _, _, _, .str s => .str s
  | .lst, _, p, _ => by simp [D.pure] at p
  | .dct, _, p, _ => by simp [D.pure] at p
  | .tup ds, _, p, .tup h t => .tup (tsTup e h) (dinATS e (by simpa [D.pure] using p) t)
theorem dinATS (e : TS H H') : ∀ {ds : List D} {vs : List V}, D.pures ds = true → DinA K H vs ds → DinA K H' vs ds
  | [], _, _, .nil => .nil
  | _ :: _, _, p, .cons h t => by
    simp only [D.pures, Bool.and_eq_true] at p
    exact .cons (dinTS e p.1 h) (dinATS e p.2 t)
end
theorem DinA.len : ∀ {vs : List V} {ds : List D}, DinA K H vs ds → vs.length = ds.length
  | _, _, .nil => rfl
  | _, _, .cons _ t => by rw [List.length_cons, List.length_cons, DinA.len t]
theorem dinAt : ∀ {vs : List V} {ds : List D} {i : Nat} {v : V}, DinA K H vs ds → vs[i]? = some v → ∃ d, ds[i]? = some d ∧ Din K H v d
  | _, _, _, _, .nil, e => by simp at e
  | _, _, 0, _, .cons h _, e => by
    simp at e
    subst e
    exact ⟨_, rfl, h⟩
  | _, _, i + 1, v, .cons _ t, e => by
    obtain ⟨d, h1, h2⟩ := dinAt (i := i) t (by simpa using e)
    exact ⟨d, by simpa using h1, h2⟩
theorem dinAtD : ∀ {vs : List V} {ds : List D} {i : Nat} {d : D}, DinA K H vs ds → ds[i]? = some d → ∃ v, vs[i]? = some v ∧ Din K H v d
  | _, _, _, _, .nil, e => by simp at e
  | _, _, 0, _, .cons h _, e => by
    simp at e
    subst e
    exact ⟨_, rfl, h⟩
  | _, _, i + 1, v, .cons _ t, e => by
    obtain ⟨d, h1, h2⟩ := dinAtD (i := i) t (by simpa using e)
    exact ⟨d, by simpa using h1, h2⟩
theorem dinApp : ∀ {a c : List V} {b d : List D}, DinA K H a b → DinA K H c d → DinA K H (a ++ c) (b ++ d)
  | _, _, _, _, .nil, h => h
  | _, _, _, _, .cons r t, h => .cons r (dinApp t h)
theorem dinDrop : ∀ {vs : List V} {ds : List D} (n : Nat), DinA K H vs ds → DinA K H (vs.drop n) (ds.drop n)
  | _, _, 0, h => by simpa using h
  | _, _, _ + 1, .nil => by simpa using DinA.nil
  | _, _, n + 1, .cons _ t => by simpa using dinDrop n t
theorem dinTake : ∀ {vs : List V} {ds : List D} (n : Nat), DinA K H vs ds → DinA K H (vs.take n) (ds.take n)
  | _, _, 0, h => by simpa using DinA.nil
  | _, _, _ + 1, .nil => by simpa using DinA.nil
  | _, _, n + 1, .cons h t => by simpa using DinA.cons h (dinTake n t)
theorem dinInts : ∀ ns : List Int, DinA K H (ns.map V.int) (ns.map D.int)
  | [] => .nil
  | n :: r => .cons (.int n) (dinInts r)
theorem pureInts : ∀ ns : List Int, D.pures (ns.map D.int) = true
  | [] => rfl
  | n :: r => by
    simp only [List.map_cons, D.pures, D.pure, Bool.true_and]
    exact pureInts r
/-- a sum as data -/
def dSm (s : Sm) : D := .tup [.tup (s.1.map D.int), .int s.2]
theorem dinSum {v : V} {s : Sm} (h : SumIn K H v s) : Din K H v (dSm s) := by
  obtain ⟨a, t, rfl, h1, h2⟩ := h
  exact .tup h1 (.cons (.tup h2 (dinInts _)) (.cons (.int _) .nil))
theorem sumDin {v : V} {s : Sm} (h : Din K H v (dSm s)) : SumIn K H v s := by
  cases h with
  | tup h1 t =>
    cases t with
    | cons a b =>
      cases a with
      | tup h2 t2 =>
        cases b with
        | cons c d =>
          cases c
          cases d
          have key : ∀ (ns : List Int) (xs : List V), DinA K H xs (ns.map D.int) → xs = ns.map V.int := by
            intro ns
            induction ns with
            | nil =>
              intro xs h
              cases h
              rfl
            | cons n r ih =>
              intro xs h
              cases h with
              | cons p q =>
                cases p
                rw [ih _ q]
                rfl
          rw [key _ _ t2] at h2
          exact ⟨_, _, rfl, h1, h2⟩
theorem pureSum (s : Sm) : (dSm s).pure = true := by
  simp [dSm, D.pure, D.pures, pureInts]
/-- its type's name -/
def D.ty : D → String
  | .non => "NoneType" | .bl _ => "bool" | .int _ => "int" | .str _ => "str" | .lst => "list" | .dct => "dict" | .tup _ => "tuple"
theorem dinTy {v : V} {d : D} (h : Din K H v d) : TyN K H v d.ty := by
  cases h with
  | non => exact .non
  | bl b => exact .bl b
  | int i => exact .int i
  | str s => exact .str s
  | lst h => exact .lst h
  | dct h => exact .dct h
  | tup h _ => exact .tup h
end

/-! ### what is a program -/
def fromTo (d : D) (lo hi : Int) : Bool := match d with
  | .int i => decide (lo ≤ i) && decide (i ≤ hi)
  | _ => false
def sumOk (many : Nat) (d : D) : Bool := match d with
  | .tup [.tup ns, l] => decide (ns.length = many) && ns.all (fun n => fromTo n (-9) 9) && fromTo l (-99) 99
  | _ => false
def wordsOk (many : Nat) (d : D) : Bool := match d with
  | .tup ws => decide (ws.length ≤ 3) && ws.all (sumOk many)
  | _ => false
def restOk (many : Nat) (k : Str) (rest : List D) : Bool :=
  if k = "put" then (match rest with | [b, s] => fromTo b 0 ((many : Int) - 1) && sumOk many s | _ => false)
  else if k = "say" then (match rest with | [w] => sumOk many w | _ => false)
  else if k = "if" then (match rest with | [w, _, _] => sumOk many w | _ => false)
  else if k = "loop" then (match rest with | [w, ws, _] => sumOk many w && wordsOk many ws | _ => false)
  else false
/-- a row is well, but for the rows within it -/
def rowOk (many : Nat) (d : D) : Bool := match d with
  | .tup (.str k :: rest) => restOk many k rest
  | _ => false
/-- the rows within a row -/
def inner (d : D) : List D := match d with
  | .tup (.str k :: rest) => if k = "if" then rest.drop 1 else if k = "loop" then rest.drop 2 else []
  | _ => []
def addTo (f : D → Option Nat) (c : Nat) (d : D) : Option Nat := (f d).bind fun n => if 12 < c + n then none else some (c + n)
def rowTo (many : Nat) (f : D → Option Nat) (c : Nat) (d : D) : Option Nat := if rowOk many d then (inner d).foldlM (addTo f) c else none
/-- how many rows in all; none where these are no rows of a program (r: how deep it may still go) -/
def chk (many : Nat) : Nat → D → Option Nat
  | 0, _ => none
  | r + 1, .tup rows => if 12 < rows.length then none else rows.foldlM (rowTo many (chk many r)) rows.length
  | _ + 1, _ => none
def topsOk (ts : List D) : Bool := decide (1 ≤ ts.length) && decide (ts.length ≤ 3) && ts.all fun t => fromTo t 0 9

def D.isInt : D → Bool | .int _ => true | _ => false
def D.isTup : D → Bool | .tup _ => true | _ => false
def D.isStr : D → Bool | .str _ => true | _ => false
theorem decInt (d : D) : decide (d.ty = "int") = d.isInt := by cases d <;> simp [D.ty, D.isInt]
theorem decTup (d : D) : decide (d.ty = "tuple") = d.isTup := by cases d <;> simp [D.ty, D.isTup]
theorem decStr (d : D) : decide (d.ty = "str") = d.isStr := by cases d <;> simp [D.ty, D.isStr]
theorem notDec {p : Prop} [Decidable p] {A B : Prop} (h1 : ¬ p → A) (h2 : p → B) : if (!decide p) = true then A else B := by
  by_cases h : p
  · rw [decide_eq_true h]
    exact iteF (h2 h)
  · rw [decide_eq_false h]
    exact iteT (h1 h)
theorem yesDec {p : Prop} [Decidable p] {A B : Prop} (h1 : p → A) (h2 : ¬ p → B) : if decide p = true then A else B := by
  by_cases h : p
  · rw [decide_eq_true h]
    exact iteT (h1 h)
  · rw [decide_eq_false h]
    exact iteF (h2 h)
theorem ifB {b : Bool} {A B : Prop} (h1 : b = true → A) (h2 : b = false → B) : if b = true then A else B := by
  cases b with
  | true => exact iteT (h1 rfl)
  | false => exact iteF (h2 rfl)
theorem intEq {a b : Int} : (V.int a = V.int b) ↔ a = b := ⟨fun h => V.int.inj h, fun h => by rw [h]⟩
theorem strEq {a b : Str} : (V.str a = V.str b) ↔ a = b := ⟨fun h => V.str.inj h, fun h => by rw [h]⟩
theorem sumOk_not {many : Nat} {ds : List D} (h : ds.length ≠ 2) : sumOk many (.tup ds) = false := by
  unfold sumOk
  split
  · rename_i e
    cases e
    exact absurd rfl h
  · rfl
theorem din2 {K : PySem.W.Frag} {H : Hp} {xs : List V} {ds : List D} (h : DinA K H xs ds) (l : ds.length = 2) : ∃ x y dx dy, xs = [x, y] ∧ ds = [dx, dy] ∧ Din K H x dx ∧ Din K H y dy := by
  cases h with
  | nil => simp at l
  | cons h1 t =>
    cases t with
    | nil => simp at l
    | cons h2 t2 =>
      cases t2 with
      | nil => exact ⟨_, _, _, _, rfl, rfl, h1, h2⟩
      | cons h3 t3 => simp at l

theorem allMap {α : Type} (p : α → Bool) (l : List α) : ((l.map p).all id) = l.all p := by
  rw [List.all_map]
  rfl
/-- a comprehension of tests -/
theorem madeBl {H0 H : Hp} {D : Addr} {n : Nat} {α : Type} {ds : List α} {p : α → Bool} (m : Made H0 D (fun i y _ => y = .bl ((ds[i]?.map p).getD false)) n H) (hn : n = ds.length) : H D = some (.lst ((ds.map p).map V.bl)) ∧ Same H0 H := by
  obtain ⟨ys, ly, g, sm, hy⟩ := m
  refine ⟨?_, sm⟩
  rw [g]
  congr 2
  apply List.ext_getElem?
  intro j
  by_cases hj : j < ys.length
  · have hj2 : j < ds.length := by omega
    have := hy j ys[j] (List.getElem?_eq_getElem hj)
    rw [List.getElem?_eq_getElem hj, this]
    simp [hj2]
  · rw [List.getElem?_eq_none (by omega), List.getElem?_eq_none (by simp; omega)]

theorem din1 {K : PySem.W.Frag} {H : Hp} {xs : List V} {ds : List D} (h : DinA K H xs ds) (l : ds.length = 1) : ∃ x dx, xs = [x] ∧ ds = [dx] ∧ Din K H x dx := by
  cases h with
  | nil => simp at l
  | cons h1 t =>
    cases t with
    | nil => exact ⟨_, _, rfl, rfl, h1⟩
    | cons h2 t2 => simp at l
theorem din3 {K : PySem.W.Frag} {H : Hp} {xs : List V} {ds : List D} (h : DinA K H xs ds) (l : ds.length = 3) : ∃ x y z dx dy dz, xs = [x, y, z] ∧ ds = [dx, dy, dz] ∧ Din K H x dx ∧ Din K H y dy ∧ Din K H z dz := by
  cases h with
  | nil => simp at l
  | cons h1 t =>
    obtain ⟨y, z, dy, dz, rfl, rfl, hy, hz⟩ := din2 t (by simpa using l)
    exact ⟨_, _, _, _, _, _, rfl, rfl, h1, hy, hz⟩
end LW

namespace LW
open PySem PySem.Spec PyProof.Rows L2
/-! ### rows that are well, and how many they are -/
def good (many : Nat) : Nat → D → Bool
  | r + 1, .tup rows => rows.all fun row => rowOk many row && (inner row).all (good many r)
  | _, _ => false
def cnt : Nat → D → Nat
  | r + 1, .tup rows => (rows.map fun row => 1 + ((inner row).map (cnt r)).sum).sum
  | _, _ => 0
theorem addFold (f : D → Option Nat) (g : D → Bool) (n : D → Nat) (hf : ∀ d, f d = if g d = true ∧ n d ≤ 12 then some (n d) else none) : ∀ (l : List D) (c : Nat), c ≤ 12 →
    l.foldlM (addTo f) c = if (l.all g) = true ∧ c + (l.map n).sum ≤ 12 then some (c + (l.map n).sum) else none
  | [], c, h => by
    simp
    exact h
  | d :: r, c, h => by
    rw [List.foldlM_cons]
    unfold addTo
    rw [hf d]
    by_cases hd : g d = true ∧ n d ≤ 12
    · rw [if_pos hd]
      by_cases h12 : 12 < c + n d
      · rw [show ((some (n d)).bind fun m => if 12 < c + m then none else some (c + m)) = none by simp [h12]]
        rw [if_neg (by
          rintro ⟨_, q⟩
          simp only [List.map_cons, List.sum_cons] at q
          omega)]
        rfl
      · rw [show ((some (n d)).bind fun m => if 12 < c + m then none else some (c + m)) = some (c + n d) by simp [h12]]
        have ih := addFold f g n hf r (c + n d) (by omega)
        show r.foldlM (addTo f) (c + n d) = _
        rw [ih]
        simp only [List.all_cons, hd.1, Bool.true_and, List.map_cons, List.sum_cons, Nat.add_assoc]
    · rw [if_neg hd]
      rw [if_neg (by
        rintro ⟨q1, q2⟩
        simp only [List.all_cons, Bool.and_eq_true, List.map_cons, List.sum_cons] at q1 q2
        exact hd ⟨q1.1, by omega⟩)]
      rfl
theorem rowFold (many : Nat) (f : D → Option Nat) (g : D → Bool) (n : D → Nat) (hf : ∀ d, f d = if g d = true ∧ n d ≤ 12 then some (n d) else none) : ∀ (l : List D) (c : Nat), c ≤ 12 →
    l.foldlM (rowTo many f) c = if (l.all fun row => rowOk many row && (inner row).all g) = true ∧ c + (l.map fun row => ((inner row).map n).sum).sum ≤ 12 then some (c + (l.map fun row => ((inner row).map n).sum).sum) else none
  | [], c, h => by
    simp
    exact h
  | d :: r, c, h => by
    rw [List.foldlM_cons]
    unfold rowTo
    by_cases ho : rowOk many d = true
    · rw [if_pos ho, addFold f g n hf (inner d) c h]
      by_cases hd : (inner d).all g = true ∧ c + ((inner d).map n).sum ≤ 12
      · rw [if_pos hd]
        have ih := rowFold many f g n hf r _ hd.2
        show r.foldlM (rowTo many f) (c + ((inner d).map n).sum) = _
        rw [ih]
        simp only [List.all_cons, ho, hd.1, Bool.true_and, Bool.and_self, List.map_cons, List.sum_cons, Nat.add_assoc]
      · rw [if_neg hd]
        rw [if_neg (by
          rintro ⟨q1, q2⟩
          simp only [List.all_cons, Bool.and_eq_true, List.map_cons, List.sum_cons] at q1 q2
          exact hd ⟨q1.1.2, by omega⟩)]
        rfl
    · rw [if_neg ho]
      rw [if_neg (by
        rintro ⟨q1, q2⟩
        simp only [List.all_cons, Bool.and_eq_true] at q1
        exact ho q1.1.1)]
      rfl
theorem sum_one {α : Type} (f : α → Nat) : ∀ l : List α, (l.map fun x => 1 + f x).sum = l.length + (l.map f).sum
  | [] => rfl
  | x :: r => by
    simp only [List.map_cons, List.sum_cons, List.length_cons, sum_one f r]
    omega
/-- what the check tells -/
theorem chk_is (many : Nat) : ∀ (r : Nat) (d : D), chk many r d = if good many r d = true ∧ cnt r d ≤ 12 then some (cnt r d) else none
  | 0, d => by
    cases d <;> simp [chk, good]
  | r + 1, d => by
    cases d with
    | tup rows =>
      have e : cnt (r + 1) (.tup rows) = rows.length + (rows.map fun row => ((inner row).map (cnt r)).sum).sum := by
        simp only [cnt]
        exact sum_one _ rows
      simp only [chk]
      by_cases h : 12 < rows.length
      · rw [if_pos h, if_neg (by
          rintro ⟨_, q⟩
          omega)]
      · rw [if_neg h, rowFold many _ (good many r) (cnt r) (chk_is many r) rows rows.length (by omega), e]
        simp only [good]
        congr
    | _ => simp [chk, good]
theorem chk_some {many r : Nat} {d : D} (h : good many r d = true) (h' : cnt r d ≤ 12) : chk many r d = some (cnt r d) := by rw [chk_is, if_pos ⟨h, h'⟩]
theorem chk_none {many r : Nat} {d : D} (h : good many r d = false ∨ 12 < cnt r d) : chk many r d = none := by
  rw [chk_is, if_neg]
  rintro ⟨a, b⟩
  rcases h with h | h
  · rw [h] at a
    cases a
  · omega
/-- a row that is well at a depth -/
def GRow (many r : Nat) (d : D) : Prop := rowOk many d = true ∧ d.pure = true ∧ (inner d).all (good many r) = true
def cntRow (r : Nat) (d : D) : Nat := 1 + ((inner d).map (cnt r)).sum
theorem good_tup {many r : Nat} {ds : List D} (h : ∀ d ∈ ds, GRow many r d) : good many (r + 1) (.tup ds) = true := by
  simp only [good, List.all_eq_true, Bool.and_eq_true]
  exact fun d hd => ⟨(h d hd).1, by have := (h d hd).2.2; rwa [List.all_eq_true] at this⟩
theorem cnt_tup {r : Nat} {ds : List D} : cnt (r + 1) (.tup ds) = (ds.map (cntRow r)).sum := rfl
/-- a sum within the bounds -/
def SumW (many : Nat) (s : Sm) : Prop := s.1.length = many ∧ (∀ n ∈ s.1, -9 ≤ n ∧ n ≤ 9) ∧ -99 ≤ s.2 ∧ s.2 ≤ 99
theorem fromTo_int {i lo hi : Int} (h : lo ≤ i) (h' : i ≤ hi) : fromTo (.int i) lo hi = true := by simp [fromTo, h, h']
theorem sumOk_of {many : Nat} {s : Sm} (h : SumW many s) : sumOk many (dSm s) = true := by
  obtain ⟨h1, h2, h3, h4⟩ := h
  simp only [dSm, sumOk, List.length_map, h1, decide_true, Bool.true_and, fromTo_int h3 h4, Bool.and_true, List.all_map]
  rw [List.all_eq_true]
  intro n hn
  exact fromTo_int (h2 n hn).1 (h2 n hn).2
theorem put_row {many r : Nat} {b : Int} {s : Sm} (h0 : 0 ≤ b) (hb : b < many) (h : SumW many s) : GRow many r (.tup [.str "put", .int b, dSm s]) := by
  have e : ("put" : Str) ≠ "if" ∧ ("put" : Str) ≠ "loop" := by decide +kernel
  refine ⟨?_, ?_, ?_⟩
  · simp [rowOk, restOk, fromTo_int h0 (show b ≤ (many : Int) - 1 by omega), sumOk_of h]
  · simp [D.pure, D.pures, pureSum]
  · simp [inner, e.1, e.2]
theorem say_row {many r : Nat} {s : Sm} (h : SumW many s) : GRow many r (.tup [.str "say", dSm s]) := by
  have e : ("say" : Str) ≠ "if" ∧ ("say" : Str) ≠ "loop" ∧ ("say" : Str) ≠ "put" := by decide +kernel
  refine ⟨?_, ?_, ?_⟩
  · simp [rowOk, restOk, e.2.2, sumOk_of h]
  · simp [D.pure, D.pures, pureSum]
  · simp [inner, e.1, e.2.1]
theorem if_row {many r : Nat} {s : Sm} {a b : List D} (h : SumW many s) (ha : good many r (.tup a) = true) (hb : good many r (.tup b) = true) (pa : D.pures a = true) (pb : D.pures b = true) :
    GRow many r (.tup [.str "if", dSm s, .tup a, .tup b]) := by
  have e : ("if" : Str) ≠ "put" ∧ ("if" : Str) ≠ "say" := by decide +kernel
  refine ⟨?_, ?_, ?_⟩
  · simp [rowOk, restOk, e.1, e.2, sumOk_of h]
  · simp [D.pure, D.pures, pureSum, pa, pb]
  · simp [inner, ha, hb]
theorem loop_row {many r : Nat} {s : Sm} {ws : List Sm} {b : List D} (h : SumW many s) (hw : ∀ w ∈ ws, SumW many w) (hl : ws.length ≤ 3) (hb : good many r (.tup b) = true) (pb : D.pures b = true) :
    GRow many r (.tup [.str "loop", dSm s, .tup (ws.map dSm), .tup b]) := by
  have e : ("loop" : Str) ≠ "put" ∧ ("loop" : Str) ≠ "say" ∧ ("loop" : Str) ≠ "if" := by decide +kernel
  have pw : D.pures (ws.map dSm) = true := by
    have key : ∀ l : List Sm, D.pures (l.map dSm) = true := by
      intro l
      induction l with
      | nil => rfl
      | cons x r ih => simp [D.pures, pureSum, ih]
    exact key ws
  have ww : wordsOk many (.tup (ws.map dSm)) = true := by
    simp only [wordsOk, List.length_map, List.all_map, Bool.and_eq_true, decide_eq_true_eq, List.all_eq_true]
    exact ⟨hl, fun w hw' => sumOk_of (hw w hw')⟩
  refine ⟨?_, ?_, ?_⟩
  · simp [rowOk, restOk, e.1, e.2.1, e.2.2, sumOk_of h, ww]
  · simp [D.pure, D.pures, pureSum, pb, pw]
  · simp [inner, e.2.2, hb]
theorem cnt_if {r : Nat} {s : D} {a b : List D} : cntRow r (.tup [.str "if", s, .tup a, .tup b]) = 1 + cnt r (.tup a) + cnt r (.tup b) := by
  simp [cntRow, inner]
  omega
theorem cnt_loop {r : Nat} {s ws : D} {b : List D} : cntRow r (.tup [.str "loop", s, ws, .tup b]) = 1 + cnt r (.tup b) := by
  have e : ("loop" : Str) ≠ "if" := by decide +kernel
  simp [cntRow, inner, e]
theorem cnt_put {r : Nat} {b s : D} : cntRow r (.tup [.str "put", b, s]) = 1 := by
  have e : ("put" : Str) ≠ "if" ∧ ("put" : Str) ≠ "loop" := by decide +kernel
  simp [cntRow, inner, e.1, e.2]
theorem cnt_say {r : Nat} {s : D} : cntRow r (.tup [.str "say", s]) = 1 := by
  have e : ("say" : Str) ≠ "if" ∧ ("say" : Str) ≠ "loop" := by decide +kernel
  simp [cntRow, inner, e.1, e.2]

/-! ### the state of the drawing -/
def stK (sc tp : Addr) (p l : Int) : List (Key × V) := [(.inr "script", .ref sc), (.inr "at", .int p), (.inr "left", .int l), (.inr "tops", .ref tp)]
theorem stNe : ¬ (("script" : Str) = "at") ∧ ¬ (("script" : Str) = "left") ∧ ¬ (("script" : Str) = "tops") ∧ ¬ (("at" : Str) = "left") ∧ ¬ (("at" : Str) = "tops") ∧ ¬ (("left" : Str) = "tops") := by decide +kernel
theorem keyNe {a b : Str} (h : ¬ a = b) : ¬ ((Sum.inr a : Key) = Sum.inr b) := fun e => h (Sum.inr.inj e)
section
variable {sc tp : Addr} {p l z : Int}
theorem st_script : valV (stK sc tp p l) (.inr "script") = some (.ref sc) := valV_pos rfl
theorem st_at : valV (stK sc tp p l) (.inr "at") = some (.int p) := (valV_neg (keyNe stNe.1)).trans (valV_pos rfl)
theorem st_left : valV (stK sc tp p l) (.inr "left") = some (.int l) := (valV_neg (keyNe stNe.2.1)).trans ((valV_neg (keyNe stNe.2.2.2.1)).trans (valV_pos rfl))
theorem st_tops : valV (stK sc tp p l) (.inr "tops") = some (.ref tp) := (valV_neg (keyNe stNe.2.2.1)).trans ((valV_neg (keyNe stNe.2.2.2.2.1)).trans ((valV_neg (keyNe stNe.2.2.2.2.2)).trans (valV_pos rfl)))
theorem put_at_ : putK (stK sc tp p l) (.inr "at") (.int z) = stK sc tp z l := by
  unfold putK
  rw [valV_any, st_at]
  simp only [Option.isSome_some, if_true, stK, List.map_cons, List.map_nil]
  rw [if_neg (keyNe stNe.1), if_neg (keyNe fun e => stNe.2.2.2.1 e.symm), if_neg (keyNe fun e => stNe.2.2.2.2.1 e.symm)]
theorem put_left_ : putK (stK sc tp p l) (.inr "left") (.int z) = stK sc tp p z := by
  unfold putK
  rw [valV_any, st_left]
  simp only [Option.isSome_some, if_true, stK, List.map_cons, List.map_nil]
  rw [if_neg (keyNe stNe.2.1), if_neg (keyNe stNe.2.2.2.1), if_neg (keyNe fun e => stNe.2.2.2.2.2 e.symm)]
end
/-- all but ds as it was -/
def But (ds : Addr) (H H' : Hp) : Prop := ∀ b o, b ≠ ds → H b = some o → H' b = some o
theorem But.refl (ds : Addr) (H : Hp) : But ds H H := fun _ _ _ h => h
theorem But.trans {ds : Addr} {H H1 H2 : Hp} (a : But ds H H1) (b : But ds H1 H2) : But ds H H2 := fun c o n h => b c o n (a c o n h)
theorem butOf {ds : Addr} {H H' : Hp} (e : Same H H') : But ds H H' := fun b o _ h => e b o h
theorem butSeq {K : PySem.W.Frag} {ds a : Addr} {H H' : Hp} {xs : List V} {kvs : List (Key × V)} (e : But ds H H') (hd : H ds = some (.dK kvs)) (h : SqL K H a xs) : SqL K H' a xs := by
  rcases h with (h | ⟨o, h⟩) | h
  · exact .inl (.inl (e _ _ (fun z => by rw [z, hd] at h; cases h) h))
  · exact .inl (.inr ⟨o, e _ _ (fun z => by rw [z, hd] at h; cases h) h⟩)
  · exact .inr h
theorem butTS {ds : Addr} {H H' : Hp} {kvs : List (Key × V)} (e : But ds H H') (hd : H ds = some (.dK kvs)) : TS H H' := fun a =>
  ⟨fun xs h => e _ _ (fun z => by rw [z, hd] at h; cases h) h, fun o u h => by
    by_cases z : a = ds
    · subst z
      rw [hd] at h
      cases h
    · exact e _ _ z h⟩
def TopsW (tops : List Int) : Prop := 1 ≤ tops.length ∧ tops.length ≤ 3 ∧ ∀ t ∈ tops, 0 ≤ t ∧ t ≤ 9
structure Stt (K : PySem.W.Frag) (H : Hp) (ds sc tp : Addr) (script tops : List Int) (p l : Int) : Prop where
  d : H ds = some (.dK (stK sc tp p l))
  s : SqL K H sc (script.map V.int)
  s63 : script.length ≤ 63
  t : SqL K H tp (tops.map V.int)
  w : TopsW tops
section
variable {K : PySem.W.Frag} {H H' : Hp} {ds sc tp : Addr} {script tops : List Int} {p l z : Int}
theorem Stt.gS (h : Stt K H ds sc tp script tops p l) : DGet H ds (.str "script") (some (.ref sc)) := by
  have q := DGet.k (k := Sum.inr "script") h.d
  rw [st_script] at q
  exact q
theorem Stt.gA (h : Stt K H ds sc tp script tops p l) : DGet H ds (.str "at") (some (.int p)) := by
  have q := DGet.k (k := Sum.inr "at") h.d
  rw [st_at] at q
  exact q
theorem Stt.gL (h : Stt K H ds sc tp script tops p l) : DGet H ds (.str "left") (some (.int l)) := by
  have q := DGet.k (k := Sum.inr "left") h.d
  rw [st_left] at q
  exact q
theorem Stt.gT (h : Stt K H ds sc tp script tops p l) : DGet H ds (.str "tops") (some (.ref tp)) := by
  have q := DGet.k (k := Sum.inr "tops") h.d
  rw [st_tops] at q
  exact q
theorem stLine : (stK sc tp p l).length < sizeLine := by
  show 4 < sizeLine
  decide
theorem Stt.pA (h : Stt K H ds sc tp script tops p l) (z : Int) : DPut H ds (.str "at") (.int z) (upd H ds (.dK (stK sc tp z l))) := by
  have q := DPut.k (k := Sum.inr "at") (v := .int z) h.d stLine
  rw [put_at_] at q
  exact q
theorem Stt.pL (h : Stt K H ds sc tp script tops p l) (z : Int) : DPut H ds (.str "left") (.int z) (upd H ds (.dK (stK sc tp p z))) := by
  have q := DPut.k (k := Sum.inr "left") (v := .int z) h.d stLine
  rw [put_left_] at q
  exact q
theorem butUpd {o : HO} : But ds H (upd H ds o) := fun b u n h => by rw [upd_ne n]; exact h
theorem Stt.to (h : Stt K H ds sc tp script tops p l) {p' l' : Int} (e : But ds H H') (hd : H' ds = some (.dK (stK sc tp p' l'))) : Stt K H' ds sc tp script tops p' l' := ⟨hd, butSeq e h.d h.s, h.s63, butSeq e h.d h.t, h.w⟩
theorem Stt.setA (h : Stt K H ds sc tp script tops p l) (z : Int) : Stt K (upd H ds (.dK (stK sc tp z l))) ds sc tp script tops z l := h.to butUpd upd_same
theorem Stt.setL (h : Stt K H ds sc tp script tops p l) (z : Int) : Stt K (upd H ds (.dK (stK sc tp p z))) ds sc tp script tops p z := h.to butUpd upd_same
theorem Stt.same (h : Stt K H ds sc tp script tops p l) (e : Same H H') : Stt K H' ds sc tp script tops p l := h.to (butOf e) (e _ _ h.d)
end

theorem pures_of {ds : List D} (h : ∀ d ∈ ds, d.pure = true) : D.pures ds = true := by
  induction ds with
  | nil => rfl
  | cons d r ih =>
    simp only [D.pures, Bool.and_eq_true]
    exact ⟨h d (List.mem_cons_self ..), ih fun x hx => h x (List.mem_cons_of_mem _ hx)⟩
theorem orB {t u : TT} {σ : L2.St} {H : Hp} {Q : Bool → Hp → Prop} (b1 b2 : Bool) (h1 : ∀ R : Bool → Hp → Prop, R b1 H → t σ H R) (h2 : ∀ R : Bool → Hp → Prop, R b2 H → u σ H R) (q : Q (b1 || b2) H) : tOr t u σ H Q := h1 _ (by
  cases b1 with
  | true => exact iteT q
  | false => exact iteF (h2 _ q))
theorem andB {t u : TT} {σ : L2.St} {H : Hp} {Q : Bool → Hp → Prop} (b1 b2 : Bool) (h1 : ∀ R : Bool → Hp → Prop, R b1 H → t σ H R) (h2 : ∀ R : Bool → Hp → Prop, R b2 H → u σ H R) (q : Q (b1 && b2) H) : tAnd t u σ H Q := h1 _ (by
  cases b1 with
  | true => exact iteT (h2 _ q)
  | false => exact iteF q)
theorem catUse {K : PySem.W.Frag} {H : Hp} {Q : VK} {a b : Addr} {xs ys : List V} (ha : SqT K H a xs) (hb : SqT K H b ys) (hl : xs.length + ys.length ≤ 100000) (q : ∀ (r : Addr) (H' : Hp), Same H H' → SqT K H' r (xs ++ ys) → Q (.ref r) H') : rCatA K (.ref a) (.ref b) H Q := by
  refine ⟨a, b, xs, ys, rfl, rfl, ha, hb, Nat.le_trans hl (by decide), fun e => ?_, fun _ e => ?_, fun _ _ p np => ?_⟩
  · refine q b H (Same.refl _) ?_
    rw [e]
    exact hb
  · refine q a H (Same.refl _) ?_
    rw [e, List.append_nil]
    exact ha
  · exact q p _ (sameNew np) (.of upd_same)
end LW

namespace LW
open PySem PySem.Spec PyProof.Rows L2
/-! ### the rows of a program, in their order -/
def rowsOf : D → List D
  | .tup rs => rs
  | _ => []
abbrev Pd := List Nat × D
def plRow (f : List D → List Nat → List Pd) (place : List Nat) (d : D) : List Pd := (place, d) :: (inner d).zipIdx.flatMap fun q => f (rowsOf q.1) (place ++ [q.2])
def plD : Nat → List D → List Nat → List Pd
  | 0, _, _ => []
  | r + 1, rows, ahead => rows.zipIdx.flatMap fun q => plRow (plD r) (ahead ++ [q.2]) q.1
theorem flatTake {β : Type} {rows : List D} {f : D × Nat → List β} {i : Nat} {d : D} (e : rows[i]? = some d) : (rows.take (i + 1)).zipIdx.flatMap f = (rows.take i).zipIdx.flatMap f ++ f (d, i) := by
  obtain ⟨hi, e1⟩ := List.getElem?_eq_some_iff.mp e
  subst e1
  rw [List.take_succ_eq_append_getElem hi, List.zipIdx_append, List.flatMap_append]
  simp [Nat.min_eq_left (Nat.le_of_lt hi)]
theorem zipSum (f : D → Nat) : ∀ (l : List D) (n : Nat), ((l.zipIdx n).map fun q => f q.1).sum = (l.map f).sum
  | [], _ => rfl
  | x :: r, n => by simp [List.zipIdx_cons, zipSum f r (n + 1)]
theorem plLen : ∀ (r : Nat) (rows : List D) (ahead : List Nat), (plD r rows ahead).length = cnt r (.tup rows)
  | 0, _, _ => by simp [plD, cnt]
  | r + 1, rows, ahead => by
    have h : ∀ (x : D) (pl : List Nat), (plD r (rowsOf x) pl).length = cnt r x := by
      intro x pl
      cases x with
      | tup rs => exact plLen r rs pl
      | _ => rw [plLen r]; cases r <;> simp [rowsOf, cnt]
    simp only [plD, cnt, List.length_flatMap, plRow, List.length_cons, h]
    rw [show (rows.zipIdx.map fun a => (((inner a.1).zipIdx.map fun q => cnt r q.1).sum + 1)) = rows.zipIdx.map fun a => (fun d => 1 + ((inner d).map (cnt r)).sum) a.1 from List.map_congr_left fun a _ => by
      rw [zipSum (cnt r), Nat.add_comm]]
    exact zipSum (fun d => 1 + ((inner d).map (cnt r)).sum) rows 0
/-- a row that is well, in its four kinds -/
theorem rowKinds {many : Nat} {d : D} (h : rowOk many d = true) : (∃ b s, d = .tup [.str "put", b, s]) ∨ (∃ w, d = .tup [.str "say", w]) ∨ (∃ w a b, d = .tup [.str "if", w, a, b]) ∨ ∃ w ws b, d = .tup [.str "loop", w, ws, b] := by
  unfold rowOk at h
  split at h
  · rename_i k rest
    unfold restOk at h
    split at h
    · rename_i e
      subst e
      split at h
      · exact .inl ⟨_, _, rfl⟩
      · cases h
    · split at h
      · rename_i e
        subst e
        split at h
        · exact .inr (.inl ⟨_, rfl⟩)
        · cases h
      · split at h
        · rename_i e
          subst e
          split at h
          · exact .inr (.inr (.inl ⟨_, _, _, rfl⟩))
          · cases h
        · split at h
          · rename_i e
            subst e
            split at h
            · exact .inr (.inr (.inr ⟨_, _, _, rfl⟩))
            · cases h
          · cases h
  · cases h
theorem kinds : ("put" : Str) ≠ "if" ∧ ("put" : Str) ≠ "loop" ∧ ("say" : Str) ≠ "if" ∧ ("say" : Str) ≠ "loop" ∧ ("loop" : Str) ≠ "if" ∧ ("if" : Str) ≠ "loop" ∧ ("put" : Str) ≠ "say" := by decide +kernel
theorem in_put {b s : D} : inner (.tup [.str "put", b, s]) = [] := by simp [inner, kinds]
theorem in_say {s : D} : inner (.tup [.str "say", s]) = [] := by simp [inner, kinds]
theorem in_if {s a b : D} : inner (.tup [.str "if", s, a, b]) = [a, b] := by simp [inner]
theorem in_loop {s ws b : D} : inner (.tup [.str "loop", s, ws, b]) = [b] := by simp [inner, kinds]
theorem purePart {ds : List D} (h : D.pures ds = true) {d : D} (m : d ∈ ds) : d.pure = true := by
  induction ds with
  | nil => cases m
  | cons x r ih =>
    simp only [D.pures, Bool.and_eq_true] at h
    rcases List.mem_cons.mp m with e | m
    · exact e ▸ h.1
    · exact ih h.2 m
theorem goodInv {many r : Nat} {x : D} (h : good many r x = true) (p : x.pure = true) : ∃ r' rs, r = r' + 1 ∧ x = .tup rs ∧ ∀ d ∈ rs, GRow many r' d := by
  cases r with
  | zero => simp [good] at h
  | succ r =>
    cases x with
    | tup rs =>
      simp only [good, List.all_eq_true, Bool.and_eq_true] at h
      exact ⟨r, rs, rfl, rfl, fun d hd => ⟨(h d hd).1, purePart p hd, by rw [List.all_eq_true]; exact (h d hd).2⟩⟩
    | _ => simp [good] at h
/-- a row of a drawing, in its four kinds, with what is within -/
theorem gKinds {many r : Nat} {d : D} (h : GRow many r d) : (∃ b s, d = .tup [.str "put", b, s]) ∨ (∃ w, d = .tup [.str "say", w]) ∨
    (∃ r' w a b, r = r' + 1 ∧ d = .tup [.str "if", w, .tup a, .tup b] ∧ (∀ x ∈ a, GRow many r' x) ∧ ∀ x ∈ b, GRow many r' x) ∨ ∃ r' w ws b, r = r' + 1 ∧ d = .tup [.str "loop", w, ws, .tup b] ∧ ∀ x ∈ b, GRow many r' x := by
  obtain ⟨h1, h2, h3⟩ := h
  rcases rowKinds h1 with ⟨b, s, rfl⟩ | ⟨w, rfl⟩ | ⟨w, a, b, rfl⟩ | ⟨w, ws, b, rfl⟩
  · exact .inl ⟨b, s, rfl⟩
  · exact .inr (.inl ⟨w, rfl⟩)
  · rw [in_if] at h3
    simp only [List.all_cons, List.all_nil, Bool.and_true, Bool.and_eq_true] at h3
    have pa : a.pure = true := purePart (ds := [.str "if", w, a, b]) h2 (by simp)
    have pb : b.pure = true := purePart (ds := [.str "if", w, a, b]) h2 (by simp)
    obtain ⟨r', as, e1, rfl, ga⟩ := goodInv h3.1 pa
    obtain ⟨r2, bs, e2, rfl, gb⟩ := goodInv h3.2 pb
    have : r2 = r' := by omega
    subst this
    exact .inr (.inr (.inl ⟨_, w, as, bs, e1, rfl, ga, gb⟩))
  · rw [in_loop] at h3
    simp only [List.all_cons, List.all_nil, Bool.and_true] at h3
    have pb : b.pure = true := purePart (ds := [.str "loop", w, ws, b]) h2 (by simp)
    obtain ⟨r', bs, e1, rfl, gb⟩ := goodInv h3 pb
    exact .inr (.inr (.inr ⟨_, w, ws, bs, e1, rfl, gb⟩))
theorem cntMem {r : Nat} {rows : List D} {d : D} (m : d ∈ rows) : cntRow r d ≤ cnt (r + 1) (.tup rows) := by
  rw [cnt_tup]
  induction rows with
  | nil => cases m
  | cons x t ih =>
    rw [List.map_cons, List.sum_cons]
    rcases List.mem_cons.mp m with e | m
    · subst e; omega
    · have := ih m; omega
theorem cntTake {r : Nat} {rows : List D} {j : Nat} : cnt (r + 1) (.tup (rows.take j)) ≤ cnt (r + 1) (.tup rows) := by
  rw [cnt_tup, cnt_tup]
  induction rows generalizing j with
  | nil => simp
  | cons x t ih =>
    cases j with
    | zero => simp
    | succ j =>
      rw [List.take_succ_cons, List.map_cons, List.sum_cons, List.map_cons, List.sum_cons]
      have := ih (j := j)
      omega
theorem plTake {r : Nat} {rows : List D} {ahead : List Nat} {j : Nat} {d : D} (e : rows[j]? = some d) : plD (r + 1) (rows.take (j + 1)) ahead = plD (r + 1) (rows.take j) ahead ++ plRow (plD r) (ahead ++ [j]) d := flatTake e
theorem plR_put {f : List D → List Nat → List Pd} {place : List Nat} {b s : D} : plRow f place (.tup [.str "put", b, s]) = [(place, .tup [.str "put", b, s])] := by simp [plRow, in_put]
theorem plR_say {f : List D → List Nat → List Pd} {place : List Nat} {s : D} : plRow f place (.tup [.str "say", s]) = [(place, .tup [.str "say", s])] := by simp [plRow, in_say]
theorem plR_if {f : List D → List Nat → List Pd} {place : List Nat} {s : D} {a b : List D} : plRow f place (.tup [.str "if", s, .tup a, .tup b]) = (place, .tup [.str "if", s, .tup a, .tup b]) :: (f a (place ++ [0]) ++ f b (place ++ [1])) := by simp [plRow, in_if, List.zipIdx_cons, rowsOf]
theorem plR_loop {f : List D → List Nat → List Pd} {place : List Nat} {s ws : D} {b : List D} : plRow f place (.tup [.str "loop", s, ws, .tup b]) = (place, .tup [.str "loop", s, ws, .tup b]) :: f b (place ++ [0]) := by simp [plRow, in_loop, List.zipIdx_cons, rowsOf]
/-! ### a list of places and rows -/
def nats (p : List Nat) : List V := p.map fun n => V.int (n : Nat)
def PlIn (K : PySem.W.Frag) (H : Hp) (v : V) (p : Pd) : Prop := ∃ t pa rv, v = .ref t ∧ SqT K H t [.ref pa, rv] ∧ SqT K H pa (nats p.1) ∧ Din K H rv p.2
inductive A2 {α β : Type} (R : α → β → Prop) : List α → List β → Prop
  | nil : A2 R [] []
  | cons {a : α} {b : β} {as : List α} {bs : List β} (h : R a b) (t : A2 R as bs) : A2 R (a :: as) (b :: bs)
section
variable {α β : Type} {R S : α → β → Prop}
theorem A2.app : ∀ {a c : List α} {b d : List β}, A2 R a b → A2 R c d → A2 R (a ++ c) (b ++ d)
  | _, _, _, _, .nil, h => h
  | _, _, _, _, .cons r t, h => .cons r (A2.app t h)
theorem A2.len : ∀ {a : List α} {b : List β}, A2 R a b → a.length = b.length
  | _, _, .nil => rfl
  | _, _, .cons _ t => by rw [List.length_cons, List.length_cons, A2.len t]
theorem A2.map {B' : List β} (f : ∀ a b, b ∈ B' → R a b → S a b) : ∀ {a : List α} {b : List β}, (∀ x ∈ b, x ∈ B') → A2 R a b → A2 S a b
  | _, _, _, .nil => .nil
  | _, _, m, .cons r t => .cons (f _ _ (m _ List.mem_cons_self) r) (A2.map f (fun x hx => m x (List.mem_cons_of_mem _ hx)) t)
theorem A2.at : ∀ {a : List α} {b : List β} {i : Nat} {x : α}, A2 R a b → a[i]? = some x → ∃ y, b[i]? = some y ∧ R x y
  | _, _, _, _, .nil, e => by simp at e
  | _, _, 0, _, .cons h _, e => by
    simp at e
    subst e
    exact ⟨_, rfl, h⟩
  | _, _, i + 1, v, .cons _ t, e => by
    obtain ⟨d, h1, h2⟩ := A2.at (i := i) t (by simpa using e)
    exact ⟨d, by simpa using h1, h2⟩
theorem A2.atR : ∀ {a : List α} {b : List β} {i : Nat} {y : β}, A2 R a b → b[i]? = some y → ∃ x, a[i]? = some x ∧ R x y
  | _, _, _, _, .nil, e => by simp at e
  | _, _, 0, _, .cons h _, e => by
    simp at e
    subst e
    exact ⟨_, rfl, h⟩
  | _, _, i + 1, v, .cons _ t, e => by
    obtain ⟨d, h1, h2⟩ := A2.atR (i := i) t (by simpa using e)
    exact ⟨d, by simpa using h1, h2⟩
end
def PlL (K : PySem.W.Frag) (H : Hp) (vs : List V) (ps : List Pd) : Prop := A2 (PlIn K H) vs ps
theorem plTS {K : PySem.W.Frag} {H H' : Hp} {vs : List V} {ps : List Pd} (e : TS H H') (hp : ∀ p ∈ ps, p.2.pure = true) (h : PlL K H vs ps) : PlL K H' vs ps :=
  A2.map (B' := ps) (fun v p m ⟨t, pa, rv, e0, h1, h2, h3⟩ => ⟨t, pa, rv, e0, tsTup e h1, tsTup e h2, dinTS e (hp p m) h3⟩) (fun _ m => m) h
theorem plPure {many : Nat} : ∀ (r : Nat) (rows : List D) (ahead : List Nat), (∀ d ∈ rows, ∃ r', GRow many r' d) → ∀ p ∈ plD r rows ahead, p.2.pure = true ∧ ∃ r', GRow many r' p.2
  | 0, _, _, _, p, m => by cases m
  | r + 1, rows, ahead, h, p, m => by
    rw [plD, List.mem_flatMap] at m
    obtain ⟨⟨d, i⟩, hm, m⟩ := m
    have hd : d ∈ rows := by
      have := List.mem_zipIdx hm
      simp at this
      rw [this.2]
      exact List.getElem_mem _
    obtain ⟨r', g⟩ := h d hd
    rcases List.mem_cons.mp m with e | m
    · subst e
      exact ⟨g.2.1, r', g⟩
    · rw [List.mem_flatMap] at m
      obtain ⟨⟨x, j⟩, hx, m⟩ := m
      have hxi : x ∈ inner d := by
        have := List.mem_zipIdx hx
        simp at this
        rw [this.2]
        exact List.getElem_mem _
      refine plPure r (rowsOf x) _ (fun y hy => ?_) p m
      rcases gKinds g with ⟨b, s, rfl⟩ | ⟨w, rfl⟩ | ⟨r2, w, a, b, rfl, rfl, ga, gb⟩ | ⟨r2, w, ws, b, rfl, rfl, gb⟩
      · rw [in_put] at hxi; cases hxi
      · rw [in_say] at hxi; cases hxi
      · rw [in_if] at hxi
        rcases List.mem_cons.mp hxi with e | e
        · subst e; exact ⟨_, ga y hy⟩
        · rw [List.mem_singleton.mp e] at hy; exact ⟨_, gb y hy⟩
      · rw [in_loop] at hxi
        rw [List.mem_singleton.mp hxi] at hy
        exact ⟨_, gb y hy⟩
end LW
namespace LW
open PySem PySem.Spec PyProof.Rows L2
/-! ### the row at a place -/
def look1 : D → List Nat → Option D
  | d, [] => some d
  | _, [_] => none
  | d, w :: n :: rest => ((inner d)[w]?).bind fun x => ((rowsOf x)[n]?).bind fun d' => look1 d' rest
def lookR (rows : List D) : List Nat → Option D
  | [] => none
  | n :: rest => (rows[n]?).bind fun d => look1 d rest
theorem plLook : ∀ (r : Nat) (rows : List D) (ahead : List Nat) (p : Pd), p ∈ plD r rows ahead → ∃ rest, p.1 = ahead ++ rest ∧ lookR rows rest = some p.2 ∧ rest.length + 1 ≤ 2 * r
  | 0, _, _, p, m => by cases m
  | r + 1, rows, ahead, p, m => by
    rw [plD, List.mem_flatMap] at m
    obtain ⟨⟨d, n⟩, hm, m⟩ := m
    have hd : rows[n]? = some d := by
      have := List.mem_zipIdx hm
      simp at this
      exact (List.getElem?_eq_getElem this.1).trans (congrArg some this.2.symm)
    rcases List.mem_cons.mp m with e | m
    · subst e
      exact ⟨[n], rfl, by simp [lookR, hd, look1], by simp; omega⟩
    · rw [List.mem_flatMap] at m
      obtain ⟨⟨x, w⟩, hx, m⟩ := m
      have hxi : (inner d)[w]? = some x := by
        have := List.mem_zipIdx hx
        simp at this
        exact (List.getElem?_eq_getElem this.1).trans (congrArg some this.2.symm)
      obtain ⟨rest, e1, e2, e3⟩ := plLook r (rowsOf x) _ p m
      cases rest with
      | nil => cases e2
      | cons k rest =>
        refine ⟨n :: w :: k :: rest, by rw [e1]; simp, ?_, by simp at e3 ⊢; omega⟩
        simp only [lookR, hd, Option.bind_some, look1, hxi] at e2 ⊢
        exact e2
/-- no row of any program -/
def Bad (many : Nat) (d : D) : Prop := ∀ r, (rowOk many d && (inner d).all (good many r)) = false
theorem badNot {many : Nat} {d : D} (h : rowOk many d = false) : Bad many d := fun r => by rw [h]; rfl
theorem badIn {many : Nat} {d x : D} (m : x ∈ inner d) (h : ∀ r, good many r x = false) : Bad many d := fun r => by
  rw [Bool.and_eq_false_iff]
  refine .inr (Bool.eq_false_iff.mpr fun z => ?_)
  rw [List.all_eq_true] at z
  have := z x m
  rw [h r] at this
  cases this
theorem badRows {many : Nat} {ds : List D} {d : D} (m : d ∈ ds) (h : Bad many d) : ∀ r, good many r (.tup ds) = false := fun r => by
  cases r with
  | zero => rfl
  | succ r =>
    refine Bool.eq_false_iff.mpr fun z => ?_
    simp only [good, List.all_eq_true] at z
    have := z d m
    rw [h r] at this
    cases this
theorem slUse {K : PySem.W.Frag} {H : Hp} {Q : VK} {a : Addr} {xs : List V} {lo hi : Option Int} (h : SqT K H a xs) (q : ∀ (r : Addr) (H' : Hp), Same H H' → SqT K H' r (cutV xs lo hi) → Q (.ref r) H') : rSlA K (.ref a) lo hi H Q := by
  refine ⟨a, xs, rfl, h, fun e => q a H (Same.refl _) ?_, fun _ p np => q p _ (sameNew np) (.of upd_same)⟩
  unfold cutV
  rw [e.1, e.2, List.drop_zero, Nat.sub_zero, List.take_length]
  exact h
theorem slUseN {K : PySem.W.Frag} {H : Hp} {σ : L2.St} {Q : VK} {a : Addr} {xs : List V} {lo : Option Int} (h : SqT K H a xs) (q : ∀ (r : Addr) (H' : Hp), Same H H' → SqT K H' r (cutV xs lo none) → Q (.ref r) H') : tNoPart σ H fun u H3 => rSlA K (.ref a) lo u H3 Q := slUse h q
theorem cutTake {xs : List V} (n : Nat) : cutV xs none (some (n : Int)) = xs.take n := by
  unfold cutV
  rw [HT.sIx_none, HT.sIx_nat, List.drop_zero, Nat.sub_zero]
  rcases Nat.le_total n xs.length with h | h
  · rw [Nat.min_eq_left h]
  · rw [Nat.min_eq_right h, List.take_length, List.take_of_length_le h]
theorem cutDrop {xs : List V} (n : Nat) : cutV xs (some (n : Int)) none = xs.drop n := by
  unfold cutV
  rw [HT.sIx_none, HT.sIx_nat]
  rcases Nat.le_total n xs.length with h | h
  · rw [Nat.min_eq_left h, List.take_of_length_le (by simp)]
  · rw [Nat.min_eq_right h, Nat.sub_self, List.take_zero, List.drop_eq_nil_of_le h]
/-! data stands while a list is changed -/
section
variable {K : PySem.W.Frag} {H : Hp} {L : Addr} {xs ys : List V}
mutual
theorem dinMut (e : H L = some (.lst xs)) : ∀ {d : D} {v : V}, Din K H v d → Din K (upd H L (.lst ys)) v d
  | .non, _, .non => .non
  | .bl _, _, .bl b => .bl b
  | .int _, _, .int i => .int i
  | .str _, _, .str s => .str s
  | .lst, _, .lst (a := a) h => by
    by_cases z : a = L
    · subst z
      exact .lst (.of upd_same)
    · rcases h with (h | ⟨o, h⟩) | h
      · exact .lst (.inl (.inl (by rw [upd_ne z]; exact h)))
      · exact .lst (.inl (.inr ⟨o, by rw [upd_ne z]; exact h⟩))
      · exact .lst (.inr h)
  | .dct, _, .dct (a := a) h => .dct (by rw [upd_ne (fun z => by rw [z, e] at h; cases h)]; exact h)
  | .tup ds, _, .tup h t => .tup (tsTup (tsLst e) h) (dinAMut e t)
theorem dinAMut (e : H L = some (.lst xs)) : ∀ {ds : List D} {vs : List V}, DinA K H vs ds → DinA K (upd H L (.lst ys)) vs ds
  | [], _, .nil => .nil
  | _ :: _, _, .cons h t => .cons (dinMut e h) (dinAMut e t)
end
end
end LW

namespace LW
open PySem PySem.Spec PyProof.Rows L2
theorem tuple_mul1 (l : Addr) (items : Array Value) (n : Nat) (dd : Option Addr) (sl : Array (Option Value)) (x : Int) (u : Tok) (c0 : (decide (x < -(2 ^ 63)) || decide (x ≥ 2 ^ 63)) = false) (c1 : (items.isEmpty || x == 1) = true) :
    Meets (Builtin.«tuple.__mul__» ⟨[.ref l, .int x u], []⟩) (fun _ R s => s.heap.get? l = some { cls := .type "tuple", dict := dd, data := .seq items n, slots := sl } ∧
      R (.ok (.ret (Value.ref l))) s) :=
  .of_wp fun prog w A R s h => by
    obtain ⟨hp, g, d, tk, os⟩ := s
    obtain ⟨hl, h⟩ := h
    have f1 := AutoSeq1.idx_int
    wp_walk using wpAny_loadPart' hl
    repeat (first
      | (refine wpAny_ite_false (decide_eq_false (by rw [c0]; exact Bool.false_ne_true)) ?_; wp_walk using wpAny_loadPart' hl)
      | (refine wpAny_ite_true (decide_eq_true (by rw [c1])) ?_; wp_walk using wpAny_loadPart' hl))
    exact ⟨_, rfl, h⟩
def rRepA (K : PySem.W.Frag) : R2 := fun x y H Q => ∃ l k xs, x = .ref l ∧ y = .int k ∧ SqT K H l xs ∧ xs ≠ [] ∧ 1 ≤ k ∧ k ≤ 1000 ∧ xs.length ≤ 1000 ∧ (k = 1 → Q (.ref l) H) ∧ (2 ≤ k → ∀ p, H p = none → Q (.ref p) (upd H p (.tup (List.replicate k.toNat xs).flatten)))
theorem op_repA {X : Cx} : OpR X (binaryOp .Mult) (rRepA X.K) := by
  intro pins s σ H x y v u Q I rx ry h
  obtain ⟨l, k, xs, rfl, rfl, hT, hne, h1, h2, hz, q1, q2⟩ := h
  by_cases hk : k = 1
  · subst hk
    have hT0 := hT
    have rx0 := rx
    cases rx
    obtain ⟨t, rfl⟩ := ry
    obtain ⟨its, r, ⟨⟨cls, dd, data, sl⟩, ho, hc, n, hd⟩, hs⟩ := I.tuple hT
    simp only at hc hd
    subst hc hd
    refine wpAny_binaryOp_repeat_ref (T := "tuple") (U := "int") (by decide) ⟨_, ho, rfl⟩ (fun s' => typeIs_int s' 1 t) noFill_tuple_mul F.fills_int_mul F.slot_int_rmul repeat_tuple F.slot_int_index.lookup
      (call_meets F.slot_int_rmul (typeIs_int s 1 t) F.entry_int_rmul (F.args_int_rmul_2 _ _) (int_rmul_tuple 1 t l its.toArray n dd sl)
        ⟨ho, rfl, ⟨_, ho, rfl⟩, call_meets F.slot_tuple_mul ⟨_, ho, rfl⟩ F.entry_tuple_mul (F.args_tuple_mul_2 _ _) (tuple_mul1 l its.toArray n dd sl 1 t (by decide) (by rw [Bool.or_eq_true]; exact .inr rfl)) ⟨ho, ?_⟩⟩)
    exact ⟨.ref l, H, I, rfl, q1 rfl⟩
  · exact op_repT pins s σ H (.ref l) (.int k) v u Q I rx ry ⟨l, k, xs, rfl, rfl, hT, hne, by omega, h2, hz, q2 (by omega)⟩
theorem kRepA {X : Cx} {K : PySem.W.Frag} (h : X.K = K) : OpR X (binaryOp .Mult) (rRepA K) := by subst h; exact op_repA
theorem repUse {K : PySem.W.Frag} {H : Hp} {Q : VK} {a : Addr} {v : V} {n : Nat} (h : SqT K H a [v]) (h1 : 1 ≤ n) (h2 : n ≤ 1000) (q : ∀ (r : Addr) (H' : Hp), Same H H' → SqT K H' r (List.replicate n v) → Q (.ref r) H') : rRepA K (.ref a) (.int (n : Int)) H Q := by
  refine ⟨a, n, [v], rfl, rfl, h, by simp, by omega, by omega, by simp, fun e => ?_, fun e p np => ?_⟩
  · have : n = 1 := by omega
    subst this
    exact q a H (Same.refl _) h
  · refine q p _ (sameNew np) (.of ?_)
    rw [upd_same, show ((n : Int)).toNat = n by omega]
    simp
theorem repUseC {K : PySem.W.Frag} {H : Hp} {σ : L2.St} {Q : VK} {a : Addr} {v : V} {n : Nat} (h : SqT K H a [v]) (h1 : 1 ≤ n) (h2 : n ≤ 1000) (q : ∀ (r : Addr) (H' : Hp), Same H H' → SqT K H' r (List.replicate n v) → Q (.ref r) H') : tC (.int (n : Int)) σ H fun y H3 => rRepA K (.ref a) y H3 Q := repUse h h1 h2 q
end LW

namespace LW
open PySem PySem.Spec PyProof.Rows L2
/-! ### data to compare -/
mutual
def toPy : D → PyData
  | .non => .none
  | .bl b => .bool b
  | .int i => .int i
  | .str s => .str s
  | .lst => .none
  | .dct => .none
  | .tup ds => .tuple (toPys ds)
def toPys : List D → List PyData
  | [] => []
  | d :: r => toPy d :: toPys r
end
section
variable {K : PySem.W.Frag} {H : Hp}
mutual
theorem dpD : ∀ {d : D} {v : V}, d.pure = true → Din K H v d → Dp K H v (toPy d)
  | .non, _, _, .non => .non
  | .bl _, _, _, .bl b => .bl b
  | .int _, _, _, .int i => .int i
  | .str _, _, _, .str s => .str s
  | .lst, _, p, _ => by simp [D.pure] at p
  | .dct, _, p, _ => by simp [D.pure] at p
  | .tup ds, _, p, .tup h t => .tup h (dpDA (by simpa [D.pure] using p) t)
theorem dpDA : ∀ {ds : List D} {vs : List V}, D.pures ds = true → DinA K H vs ds → DpAll K H vs (toPys ds)
  | [], _, _, .nil => .nil
  | _ :: _, _, p, .cons h t => by
    simp only [D.pures, Bool.and_eq_true] at p
    exact .cons (dpD p.1 h) (dpDA p.2 t)
end
end
theorem toPys_map : ∀ ds : List D, toPys ds = ds.map toPy
  | [] => rfl
  | d :: r => by rw [toPys, toPys_map r]; rfl
theorem toPy_sum (s : Sm) : toPy (dSm s) = dS s := by
  have key : ∀ ns : List Int, toPys (ns.map D.int) = dI ns := by
    intro ns
    induction ns with
    | nil => rfl
    | cons n r ih =>
      rw [List.map_cons, toPys, ih]
      rfl
  simp [dSm, toPy, toPys, key, dS]
theorem numInv {d : D} {lo hi : Int} (h : fromTo d lo hi = true) : ∃ i, d = .int i ∧ lo ≤ i ∧ i ≤ hi := by
  unfold fromTo at h
  split at h
  · simp only [Bool.and_eq_true, decide_eq_true_eq] at h
    exact ⟨_, rfl, h.1, h.2⟩
  · cases h
theorem sumInv {many : Nat} {d : D} (h : sumOk many d = true) : ∃ sm, d = dSm sm ∧ SumW many sm := by
  unfold sumOk at h
  split at h
  · rename_i ns l
    simp only [Bool.and_eq_true, decide_eq_true_eq, List.all_eq_true] at h
    obtain ⟨⟨h1, h2⟩, h3⟩ := h
    obtain ⟨i, rfl, l1, l2⟩ := numInv h3
    have key : ∀ ns : List D, (∀ x ∈ ns, fromTo x (-9) 9 = true) → ∃ ks : List Int, ns = ks.map D.int ∧ ∀ k ∈ ks, -9 ≤ k ∧ k ≤ 9 := by
      intro ns
      induction ns with
      | nil => exact fun _ => ⟨[], rfl, fun k hk => by cases hk⟩
      | cons x t ih =>
        intro hx
        obtain ⟨k, rfl, k1, k2⟩ := numInv (hx x List.mem_cons_self)
        obtain ⟨ks, rfl, hks⟩ := ih fun y hy => hx y (List.mem_cons_of_mem _ hy)
        refine ⟨k :: ks, rfl, fun z hz => ?_⟩
        rcases List.mem_cons.mp hz with rfl | hz
        · exact ⟨k1, k2⟩
        · exact hks z hz
    obtain ⟨ks, rfl, hks⟩ := key ns h2
    exact ⟨(ks, i), rfl, by simpa using h1, hks, l1, l2⟩
  · cases h
theorem lyStr {s : Str} (h : (PyData.str s).canLay0 = true) : Ly 1 (.str s) := ⟨h, by simp [PyData.depth]⟩
theorem lyKinds : (PyData.str "put").canLay0 = true ∧ (PyData.str "say").canLay0 = true ∧ (PyData.str "if").canLay0 = true ∧ (PyData.str "loop").canLay0 = true := by decide +kernel
theorem lyAll {n : Nat} : ∀ {ds : List PyData}, (∀ d ∈ ds, Ly n d) → LyA n ds
  | [], _ => lyNil n
  | d :: r, h => lyCons (h d List.mem_cons_self) (lyAll fun x hx => h x (List.mem_cons_of_mem _ hx))
theorem rowKinds' {many : Nat} {d : D} (h : rowOk many d = true) : (∃ (i : Int) (s : Sm), d = .tup [.str "put", .int i, dSm s] ∧ 0 ≤ i ∧ i ≤ (many : Int) - 1 ∧ SumW many s) ∨ (∃ s : Sm, d = .tup [.str "say", dSm s] ∧ SumW many s) ∨
    (∃ (s : Sm) (a b : D), d = .tup [.str "if", dSm s, a, b] ∧ SumW many s) ∨ ∃ (s : Sm) (wl : List Sm) (b : D), d = .tup [.str "loop", dSm s, .tup (wl.map dSm), b] ∧ SumW many s ∧ (∀ w ∈ wl, SumW many w) ∧ wl.length ≤ 3 := by
  have kd : ("put" : Str) ≠ "if" ∧ ("put" : Str) ≠ "loop" ∧ ("say" : Str) ≠ "if" ∧ ("say" : Str) ≠ "loop" ∧ ("loop" : Str) ≠ "if" ∧ ("if" : Str) ≠ "loop" ∧ ("say" : Str) ≠ "put" ∧ ("if" : Str) ≠ "put" ∧ ("loop" : Str) ≠ "put" ∧ ("if" : Str) ≠ "say" ∧ ("loop" : Str) ≠ "say" := by decide +kernel
  rcases rowKinds h with ⟨b, s, rfl⟩ | ⟨w, rfl⟩ | ⟨w, a, b, rfl⟩ | ⟨w, ws, b, rfl⟩
  · simp only [rowOk, restOk, if_true, Bool.and_eq_true] at h
    obtain ⟨i, rfl, i0, i1⟩ := numInv h.1
    obtain ⟨sm, rfl, hw⟩ := sumInv h.2
    exact .inl ⟨i, sm, rfl, i0, i1, hw⟩
  · have h : sumOk many w = true := by simpa [rowOk, restOk, kd] using h
    obtain ⟨sm, rfl, hw⟩ := sumInv h
    exact .inr (.inl ⟨sm, rfl, hw⟩)
  · have h : sumOk many w = true := by simpa [rowOk, restOk, kd] using h
    obtain ⟨sm, rfl, hw⟩ := sumInv h
    exact .inr (.inr (.inl ⟨sm, a, b, rfl, hw⟩))
  · have h : sumOk many w = true ∧ wordsOk many ws = true := by simpa [rowOk, restOk, kd] using h
    obtain ⟨sm, rfl, hw⟩ := sumInv h.1
    have h2 := h.2
    cases ws with
    | tup l =>
      unfold wordsOk at h2
      simp only [Bool.and_eq_true, decide_eq_true_eq, List.all_eq_true] at h2
      have key : ∀ l : List D, (∀ x ∈ l, sumOk many x = true) → ∃ wl : List Sm, l = wl.map dSm ∧ ∀ w ∈ wl, SumW many w := by
        intro l
        induction l with
        | nil => exact fun _ => ⟨[], rfl, fun k hk => by cases hk⟩
        | cons x t ih =>
          intro hx
          obtain ⟨k, rfl, k1⟩ := sumInv (hx x List.mem_cons_self)
          obtain ⟨ks, rfl, hks⟩ := ih fun y hy => hx y (List.mem_cons_of_mem _ hy)
          refine ⟨k :: ks, rfl, fun z hz => ?_⟩
          rcases List.mem_cons.mp hz with rfl | hz
          · exact k1
          · exact hks z hz
      obtain ⟨wl, rfl, hwl⟩ := key l h2.2
      exact .inr (.inr (.inr ⟨sm, wl, b, rfl, hw, hwl, by simpa using h2.1⟩))
    | _ => cases h2
theorem lySum' (s : Sm) : Ly 3 (toPy (dSm s)) := by rw [toPy_sum]; exact lySum s
theorem lyRow {many : Nat} : ∀ (r : Nat) {d : D}, GRow many r d → Ly (5 + 2 * r) (toPy d) := by
  intro r
  induction r with
  | zero =>
    intro d g
    rcases gKinds g with ⟨b, s, e⟩ | ⟨w, e⟩ | ⟨r', w, a, b, e, _⟩ | ⟨r', w, ws, b, e, _⟩
    · rcases rowKinds' g.1 with ⟨i, sm, rfl, _⟩ | ⟨sm, rfl, _⟩ | ⟨sm, a, b, rfl, _⟩ | ⟨sm, wl, b, rfl, _⟩
      · simp only [toPy, toPys]
        exact (lyTup (lyCons ((lyStr lyKinds.1).up (by omega)) (lyCons ((lyInt i).up (by omega)) (lyCons (lySum' sm) (lyNil _))))).up (by omega)
      · cases e
      · cases e
      · cases e
    · rcases rowKinds' g.1 with ⟨i, sm, rfl, _⟩ | ⟨sm, rfl, _⟩ | ⟨sm, a, b, rfl, _⟩ | ⟨sm, wl, b, rfl, _⟩
      · cases e
      · simp only [toPy, toPys]
        exact (lyTup (lyCons ((lyStr lyKinds.2.1).up (by omega)) (lyCons (lySum' sm) (lyNil _)))).up (by omega)
      · cases e
      · cases e
    · cases e
    · cases e
  | succ r ih =>
    intro d g
    have rowsLy : ∀ rs : List D, (∀ x ∈ rs, GRow many r x) → Ly (6 + 2 * r) (toPy (.tup rs)) := fun rs h => by
      simp only [toPy]
      refine (lyTup (n := 5 + 2 * r) (lyAll fun y hy => ?_)).up (by omega)
      rw [toPys_map] at hy
      obtain ⟨x, hx, rfl⟩ := List.mem_map.mp hy
      exact ih (h x hx)
    rcases gKinds g with ⟨b, s, e⟩ | ⟨w, e⟩ | ⟨r', w, a, b, e, e2, ga, gb⟩ | ⟨r', w, ws, b, e, e2, gb⟩
    · rcases rowKinds' g.1 with ⟨i, sm, rfl, _⟩ | ⟨sm, rfl, _⟩ | ⟨sm, a, b, rfl, _⟩ | ⟨sm, wl, b, rfl, _⟩
      · simp only [toPy, toPys]
        exact (lyTup (lyCons ((lyStr lyKinds.1).up (by omega)) (lyCons ((lyInt i).up (by omega)) (lyCons (lySum' sm) (lyNil _))))).up (by omega)
      · cases e
      · cases e
      · cases e
    · rcases rowKinds' g.1 with ⟨i, sm, rfl, _⟩ | ⟨sm, rfl, _⟩ | ⟨sm, a, b, rfl, _⟩ | ⟨sm, wl, b, rfl, _⟩
      · cases e
      · simp only [toPy, toPys]
        exact (lyTup (lyCons ((lyStr lyKinds.2.1).up (by omega)) (lyCons (lySum' sm) (lyNil _)))).up (by omega)
      · cases e
      · cases e
    · have : r' = r := by omega
      subst this
      subst e2
      rcases rowKinds' g.1 with ⟨i, sm, e3, _⟩ | ⟨sm, e3, _⟩ | ⟨sm, a2, b2, e3, _⟩ | ⟨sm, wl, b2, e3, _⟩
      · cases e3
      · cases e3
      · cases e3
        rw [toPy, toPys, toPys, toPys, toPys, toPys]
        exact (lyTup (n := 6 + 2 * r') (lyCons ((lyStr lyKinds.2.2.1).up (by omega)) (lyCons ((lySum' sm).up (by omega)) (lyCons (rowsLy a ga) (lyCons (rowsLy b gb) (lyNil _)))))).up (by omega)
      · injection e3 with e3
        injection e3 with e3 _
        injection e3 with e3
        exact absurd e3 kinds.2.2.2.2.2.1
    · have : r' = r := by omega
      subst this
      subst e2
      rcases rowKinds' g.1 with ⟨i, sm, e3, _⟩ | ⟨sm, e3, _⟩ | ⟨sm, a2, b2, e3, _⟩ | ⟨sm, wl, b2, e3, _⟩
      · cases e3
      · cases e3
      · injection e3 with e3
        injection e3 with e3 _
        injection e3 with e3
        exact absurd e3 kinds.2.2.2.2.1
      · cases e3
        rw [toPy, toPys, toPys, toPys, toPys, toPys]
        have wly : Ly 4 (toPy (.tup (wl.map dSm))) := by
          rw [toPy]
          refine lyTup (lyAll fun y hy => ?_)
          rw [toPys_map] at hy
          obtain ⟨x, hx, rfl⟩ := List.mem_map.mp hy
          obtain ⟨s, _, rfl⟩ := List.mem_map.mp hx
          exact lySum' s
        exact (lyTup (n := 6 + 2 * r') (lyCons ((lyStr lyKinds.2.2.2).up (by omega)) (lyCons ((lySum' sm).up (by omega)) (lyCons (wly.up (by omega)) (lyCons (rowsLy b gb) (lyNil _)))))).up (by omega)
theorem lyRows {many r : Nat} {rs : List D} (h : ∀ x ∈ rs, GRow many r x) : Ly (6 + 2 * r) (toPy (.tup rs)) := by
  rw [toPy]
  refine (lyTup (n := 5 + 2 * r) (lyAll fun y hy => ?_)).up (by omega)
  rw [toPys_map] at hy
  obtain ⟨x, hx, rfl⟩ := List.mem_map.mp hy
  exact lyRow r (h x hx)
def dPl (p : List Nat) : PyData := .tuple (p.map fun (n : Nat) => PyData.int (n : Int))
theorem dpNats {K : PySem.W.Frag} {H : Hp} : ∀ p : List Nat, DpAll K H (nats p) (p.map fun (n : Nat) => PyData.int (n : Int))
  | [] => .nil
  | n :: r => .cons (.int n) (dpNats r)
theorem lyPl (p : List Nat) : Ly 2 (dPl p) := lyTup (lyAll fun d hd => by
  obtain ⟨n, _, rfl⟩ := List.mem_map.mp hd
  exact lyInt n)
def dPd (p : Pd) : PyData := .tuple [dPl p.1, toPy p.2]
theorem dpPd {K : PySem.W.Frag} {H : Hp} {v : V} {p : Pd} (hp : p.2.pure = true) (h : PlIn K H v p) : Dp K H v (dPd p) := by
  obtain ⟨t, pa, rv, rfl, h1, h2, h3⟩ := h
  exact .tup h1 (.cons (.tup h2 (dpNats _)) (.cons (dpD hp h3) .nil))
theorem dpPds {K : PySem.W.Frag} {H : Hp} : ∀ {vs : List V} {ps : List Pd}, (∀ p ∈ ps, p.2.pure = true) → PlL K H vs ps → DpAll K H vs (ps.map dPd)
  | _, _, _, .nil => .nil
  | _, _, hp, .cons r t => .cons (dpPd (hp _ List.mem_cons_self) r) (dpPds (fun p hm => hp p (List.mem_cons_of_mem _ hm)) t)
theorem GRow.up {many : Nat} : ∀ {r r' : Nat} {d : D}, GRow many r d → r ≤ r' → GRow many r' d := by
  have gup : ∀ (r : Nat) (d : D), good many r d = true → good many (r + 1) d = true := by
    intro r
    induction r with
    | zero => intro d h; simp [good] at h
    | succ r ih =>
      intro d h
      cases d with
      | tup rows =>
        rw [good, List.all_eq_true] at h ⊢
        intro x hx
        have := h x hx
        rw [Bool.and_eq_true] at this ⊢
        refine ⟨this.1, ?_⟩
        rw [List.all_eq_true]
        intro y hy
        exact ih y (List.all_eq_true.mp this.2 y hy)
      | _ => simp [good] at h
  intro r r' d h l
  obtain ⟨k, rfl⟩ : ∃ k, r' = r + k := ⟨r' - r, by omega⟩
  clear l
  induction k with
  | zero => exact h
  | succ k ih =>
    refine ⟨ih.1, ih.2.1, ?_⟩
    rw [List.all_eq_true]
    exact fun y hy => gup _ y (List.all_eq_true.mp ih.2.2 y hy)
theorem plGood {many m : Nat} : ∀ (r : Nat) (rows : List D) (ahead : List Nat), (∀ d ∈ rows, GRow many m d) → ∀ p ∈ plD r rows ahead, GRow many m p.2
  | 0, _, _, _, p, h => by cases h
  | r + 1, rows, ahead, h, p, hp => by
    rw [plD, List.mem_flatMap] at hp
    obtain ⟨⟨d, i⟩, hm, hp⟩ := hp
    have hd : d ∈ rows := by
      have := List.mem_zipIdx hm
      simp at this
      rw [this.2]
      exact List.getElem_mem _
    have g := h d hd
    rcases List.mem_cons.mp hp with e | hp
    · subst e
      exact g
    · rw [List.mem_flatMap] at hp
      obtain ⟨⟨x, j⟩, hx, hp⟩ := hp
      have hxi : x ∈ inner d := by
        have := List.mem_zipIdx hx
        simp at this
        rw [this.2]
        exact List.getElem_mem _
      refine plGood r (rowsOf x) _ (fun y hy => ?_) p hp
      rcases gKinds g with ⟨b, s, rfl⟩ | ⟨w, rfl⟩ | ⟨r2, w, a, b, e, rfl, ga, gb⟩ | ⟨r2, w, ws, b, e, rfl, gb⟩
      · rw [in_put] at hxi; cases hxi
      · rw [in_say] at hxi; cases hxi
      · rw [in_if] at hxi
        rcases List.mem_cons.mp hxi with e2 | e2
        · subst e2; exact (ga y hy).up (by omega)
        · rw [List.mem_singleton.mp e2] at hy; exact (gb y hy).up (by omega)
      · rw [in_loop] at hxi
        rw [List.mem_singleton.mp hxi] at hy
        exact (gb y hy).up (by omega)
theorem lyPd {many : Nat} {p : Pd} (h : GRow many 3 p.2) : Ly 12 (dPd p) := (lyTup (n := 11) (lyCons ((lyPl p.1).up (by decide)) (lyCons ((lyRow 3 h).up (by decide)) (lyNil _)))).up (by decide)
theorem lyPds {many : Nat} {ps : List Pd} (h : ∀ p ∈ ps, GRow many 3 p.2) : Ly 13 (.list (ps.map dPd)) := lyLst (lyAll fun d hd => by
  obtain ⟨p, hp, rfl⟩ := List.mem_map.mp hd
  exact lyPd (h p hp))
end LW

/-! stretches, trees, fillings in a stretch -/
namespace LW
open PySem PySem.Spec PyProof.Rows L2
abbrev Iv := Int × Int
/-- a pair of two numbers in the heap; a list of such -/
def PrI (K : PySem.W.Frag) (H : Hp) (v : V) (p : Iv) : Prop := ∃ t, v = .ref t ∧ SqT K H t [.int p.1, .int p.2]
def StrIn (K : PySem.W.Frag) (H : Hp) (a : Addr) (st : List Iv) : Prop := ∃ vs, SqL K H a vs ∧ A2 (PrI K H) vs st
theorem priTS {K : PySem.W.Frag} {H H' : Hp} {vs : List V} {st : List Iv} (e : TS H H') (h : A2 (PrI K H) vs st) : A2 (PrI K H') vs st :=
  A2.map (B' := st) (fun _ _ _ ⟨t, e0, h1⟩ => ⟨t, e0, tsTup e h1⟩) (fun _ m => m) h
theorem StrIn.same {K : PySem.W.Frag} {H H' : Hp} {a : Addr} {st : List Iv} (e : Same H H') (h : StrIn K H a st) : StrIn K H' a st := by
  obtain ⟨vs, h1, h2⟩ := h
  exact ⟨vs, Same.seq e h1, priTS (tsOf e) h2⟩
/-- the least that a sum may be in a stretch, without its last number -/
def low : List Int → List Iv → Int
  | n :: ns, p :: ps => min (n * p.1) (n * p.2) + low ns ps
  | _, _ => 0
def least (s : Sm) (st : List Iv) : Int := s.2 + low s.1 st
theorem low_take : ∀ {a : List Int} {b : List Iv} {i : Nat} {x : Int} {y : Iv}, a[i]? = some x → b[i]? = some y → low (a.take (i + 1)) (b.take (i + 1)) = low (a.take i) (b.take i) + min (x * y.1) (x * y.2)
  | [], _, _, _, _, h, _ => by simp at h
  | _ :: _, [], _, _, _, _, h => by simp at h
  | n :: ns, p :: ps, 0, x, y, h, h' => by
    simp at h h'
    subst h h'
    simp [low]
  | n :: ns, p :: ps, i + 1, x, y, h, h' => by
    have ih := low_take (a := ns) (b := ps) (i := i) (x := x) (y := y) (by simpa using h) (by simpa using h')
    simp only [List.take_succ_cons, low]
    rw [ih]
    omega
theorem minTwo {a b m : Int} (h : m ∈ [a, b]) (h2 : ∀ y, y ∈ [a, b] → m ≤ y) : m = min a b := by
  have h3 := h2 a (by simp)
  have h4 := h2 b (by simp)
  rcases List.mem_cons.mp h with e | e
  · omega
  · have := List.mem_singleton.mp e
    omega
def holds (ss : List Sm) (fs : List Int) : Bool := ss.all fun s => decide (val s fs ≤ 0)
theorem holds_take {ss : List Sm} {fs : List Int} {i : Nat} {s : Sm} (e : ss[i]? = some s) : holds (ss.take (i + 1)) fs = (holds (ss.take i) fs && decide (val s fs ≤ 0)) := by
  obtain ⟨hi, e1⟩ := List.getElem?_eq_some_iff.mp e
  subst e1
  rw [holds, List.take_succ_eq_append_getElem hi, List.all_append]
  simp [holds]
section
variable {α β : Type} {R : α → β → Prop}
theorem A2.take : ∀ {a : List α} {b : List β} (n : Nat), A2 R a b → A2 R (a.take n) (b.take n)
  | _, _, 0, _ => by simpa using A2.nil
  | _, _, _ + 1, .nil => by simpa using A2.nil
  | _, _, n + 1, .cons h t => by simpa using A2.cons h (A2.take n t)
theorem A2.drop : ∀ {a : List α} {b : List β} (n : Nat), A2 R a b → A2 R (a.drop n) (b.drop n)
  | _, _, 0, h => by simpa using h
  | _, _, _ + 1, .nil => by simpa using A2.nil
  | _, _, n + 1, .cons _ t => by simpa using A2.drop n t
end
/-- a tree, well or not -/
inductive Tr where
  | sum (n : Int) | cut (n c : Int) (a b : Tr)
def Tr.deep : Tr → Nat
  | .sum _ => 1
  | .cut _ _ a b => max a.deep b.deep + 1
inductive TrIn (K : PySem.W.Frag) (H : Hp) : V → Tr → Prop
  | sum {a : Addr} {n : Int} (h : SqT K H a [.str "sum", .int n]) : TrIn K H (.ref a) (.sum n)
  | cut {a : Addr} {n c : Int} {v w : V} {s t : Tr} (h : SqT K H a [.str "cut", .int n, .int c, v, w]) (h1 : TrIn K H v s) (h2 : TrIn K H w t) : TrIn K H (.ref a) (.cut n c s t)
theorem trTS {K : PySem.W.Frag} {H H' : Hp} (e : TS H H') : ∀ {v : V} {t : Tr}, TrIn K H v t → TrIn K H' v t
  | _, _, .sum h => .sum (tsTup e h)
  | _, _, .cut h a b => .cut (tsTup e h) (trTS e a) (trTS e b)
def below (st : List Iv) (j : Nat) (p : Iv) (c : Int) : List Iv := st.take j ++ [(p.1, c)] ++ st.drop (j + 1)
def above (st : List Iv) (j : Nat) (p : Iv) (c : Int) : List Iv := st.take j ++ [(c + 1, p.2)] ++ st.drop (j + 1)
def isT (ss : List Sm) : List Iv → Tr → Bool
  | st, .sum n => decide (0 ≤ n) && match ss[n.toNat]? with
    | some s => decide (0 < least s st)
    | none => false
  | st, .cut n c a b => decide (0 ≤ n) && match st[n.toNat]? with
    | some p => decide (p.1 ≤ c) && decide (c < p.2) && isT ss (below st n.toNat p c) a && isT ss (above st n.toNat p c) b
    | none => false
theorem cutK : ("cut" : Str) ≠ "sum" := by decide +kernel
/-- a filling in the heap, a list of one's own -/
def FIn (K : PySem.W.Frag) (H : Hp) (v : V) (fs : List Int) : Prop := ∃ a, v = .ref a ∧ H a = some (.lst (fs.map V.int))
theorem finSame {K : PySem.W.Frag} {H H' : Hp} {vs : List V} {ff : List (List Int)} (e : Same H H') (h : A2 (FIn K H) vs ff) : A2 (FIn K H') vs ff :=
  A2.map (B' := ff) (fun _ _ _ ⟨a, e0, h1⟩ => ⟨a, e0, e _ _ h1⟩) (fun _ m => m) h
def FInN (D : Addr) (H : Hp) (v : V) (fs : List Int) : Prop := ∃ a, v = .ref a ∧ a ≠ D ∧ H a = some (.lst (fs.map V.int))
theorem finN {K : PySem.W.Frag} {D : Addr} {H : Hp} {vs : List V} {ff : List (List Int)} (h : A2 (FInN D H) vs ff) : A2 (FIn K H) vs ff :=
  A2.map (B' := ff) (fun _ _ _ ⟨a, e0, _, h1⟩ => ⟨a, e0, h1⟩) (fun _ m => m) h
theorem finNSame {D : Addr} {H H' : Hp} {vs : List V} {ff : List (List Int)} (e : Same H H') (h : A2 (FInN D H) vs ff) : A2 (FInN D H') vs ff :=
  A2.map (B' := ff) (fun _ _ _ ⟨a, e0, n, h1⟩ => ⟨a, e0, n, e _ _ h1⟩) (fun _ m => m) h
theorem finNMut {D : Addr} {H : Hp} {o : HO} {vs : List V} {ff : List (List Int)} (h : A2 (FInN D H) vs ff) : A2 (FInN D (upd H D o)) vs ff :=
  A2.map (B' := ff) (fun _ _ _ ⟨a, e0, n, h1⟩ => ⟨a, e0, n, by rw [upd_ne n]; exact h1⟩) (fun _ m => m) h
def many (p : Iv) : Nat := (p.2 + 1 - p.1).toNat
def exts (f : List Int) (p : Iv) (n : Nat) : List (List Int) := (List.range n).map fun (k : Nat) => f ++ [p.1 + (k : Int)]
def ext (ff : List (List Int)) (p : Iv) : List (List Int) := ff.flatMap fun f => exts f p (many p)
def allIn (st : List Iv) : List (List Int) := st.foldl ext [[]]
theorem ext_len {ff : List (List Int)} {p : Iv} : (ext ff p).length = ff.length * many p := by
  induction ff with
  | nil => simp [ext]
  | cons f r ih =>
    simp only [ext, List.flatMap_cons, List.length_append] at ih ⊢
    rw [ih]
    simp [exts, Nat.succ_mul, Nat.add_comm]
theorem allIn_take {st : List Iv} {i : Nat} {p : Iv} (e : st[i]? = some p) : allIn (st.take (i + 1)) = ext (allIn (st.take i)) p := by
  obtain ⟨hi, e1⟩ := List.getElem?_eq_some_iff.mp e
  subst e1
  rw [allIn, List.take_succ_eq_append_getElem hi, List.foldl_append]
  rfl
theorem allIn_len {st : List Iv} (h : ∀ p ∈ st, many p ≤ 10) : ∀ i, (allIn (st.take i)).length ≤ 10 ^ i
  | 0 => by simp [allIn]
  | i + 1 => by
    cases e : st[i]? with
    | none =>
      have : st.take (i + 1) = st.take i := by
        have hl : st.length ≤ i := by simpa using e
        rw [List.take_of_length_le (by omega), List.take_of_length_le hl]
      rw [this]
      have := allIn_len h i
      rw [Nat.pow_succ]
      omega
    | some p =>
      rw [allIn_take e, ext_len, Nat.pow_succ]
      exact Nat.mul_le_mul (allIn_len h i) (h p (List.mem_of_getElem? e))
theorem ext_take {ff : List (List Int)} {p : Iv} {j : Nat} {f : List Int} (e : ff[j]? = some f) : ext (ff.take (j + 1)) p = ext (ff.take j) p ++ exts f p (many p) := by
  obtain ⟨hi, e1⟩ := List.getElem?_eq_some_iff.mp e
  subst e1
  rw [ext, List.take_succ_eq_append_getElem hi, List.flatMap_append]
  simp [ext]
theorem allIn_deep {st : List Iv} : ∀ i, ∀ f ∈ allIn (st.take i), f.length ≤ i
  | 0, f, m => by
    simp [allIn] at m
    simp [m]
  | i + 1, f, m => by
    cases e : st[i]? with
    | none =>
      have : st.take (i + 1) = st.take i := by
        have hl : st.length ≤ i := by simpa using e
        rw [List.take_of_length_le (by omega), List.take_of_length_le hl]
      rw [this] at m
      exact Nat.le_succ_of_le (allIn_deep i f m)
    | some p =>
      rw [allIn_take e, ext, List.mem_flatMap] at m
      obtain ⟨g, mg, m⟩ := m
      obtain ⟨k, _, rfl⟩ := List.mem_map.mp m
      have := allIn_deep i g mg
      simp
      omega
/-- a filling lies in a stretch -/
def InS : List Iv → List Int → Prop
  | [], [] => True
  | p :: ps, f :: fs => p.1 ≤ f ∧ f ≤ p.2 ∧ InS ps fs
  | _, _ => False
theorem mul_low {n f : Int} {p : Iv} (h1 : p.1 ≤ f) (h2 : f ≤ p.2) : min (n * p.1) (n * p.2) ≤ n * f := by
  by_cases h : 0 ≤ n
  · have := Int.mul_le_mul_of_nonneg_left h1 h
    omega
  · have := Int.mul_le_mul_of_nonpos_left (a := n) (by omega) h2
    omega
theorem low_le : ∀ {a : List Int} {st : List Iv} {fs : List Int}, InS st fs → low a st ≤ dot a fs ∨ a.length ≠ st.length
  | [], [], [], _ => .inl (by simp [low, dot])
  | [], _ :: _, _, _ => .inr (by simp)
  | _ :: _, [], _, _ => .inr (by simp)
  | n :: ns, p :: ps, f :: fs, h => by
    have hm := mul_low (n := n) h.1 h.2.1
    rcases low_le (a := ns) h.2.2 with h3 | h3
    · refine .inl ?_
      simp only [low, dot]
      omega
    · exact .inr (by simpa using h3)
  | [], [], _ :: _, h => h.elim
  | _ :: _, _ :: _, [], h => h.elim
theorem least_le {s : Sm} {st : List Iv} {fs : List Int} (h : InS st fs) (hl : s.1.length = st.length) : least s st ≤ val s fs := by
  rcases low_le (a := s.1) h with h | h
  · unfold least val
    omega
  · exact absurd hl h
theorem ins_at : ∀ {st : List Iv} {fs : List Int} {j : Nat} {p : Iv}, InS st fs → st[j]? = some p → ∃ f, fs[j]? = some f ∧ p.1 ≤ f ∧ f ≤ p.2
  | [], _, _, _, _, e => by simp at e
  | p :: ps, f :: fs, 0, _, h, e => by
    simp at e
    subst e
    exact ⟨f, rfl, h.1, h.2.1⟩
  | p :: ps, f :: fs, j + 1, _, h, e => by
    obtain ⟨g, e1, e2⟩ := ins_at (j := j) h.2.2 (by simpa using e)
    exact ⟨g, by simpa using e1, e2⟩
  | _ :: _, [], _, _, h, _ => h.elim
theorem ins_set : ∀ {st : List Iv} {fs : List Int} {j : Nat} {f : Int} {r : Iv}, InS st fs → fs[j]? = some f → r.1 ≤ f → f ≤ r.2 → j < st.length → InS (st.take j ++ [r] ++ st.drop (j + 1)) fs
  | [], _, _, _, _, _, _, _, _, l => by simp at l
  | p :: ps, g :: fs, 0, f, r, h, e, h1, h2, _ => by
    simp at e
    subst e
    exact ⟨h1, h2, by simpa using h.2.2⟩
  | p :: ps, g :: fs, j + 1, f, r, h, e, h1, h2, l => by
    have := ins_set (j := j) (f := f) (r := r) h.2.2 (by simpa using e) h1 h2 (by simpa using l)
    exact ⟨h.1, h.2.1, by simpa using this⟩
  | _ :: _, [], _, _, _, h, _, _, _, _ => h.elim
/-- where a tree tells it, nothing in the stretch has all hold -/
theorem isT_sound {ss : List Sm} : ∀ (t : Tr) {st : List Iv} {fs : List Int}, isT ss st t = true → (∀ s ∈ ss, s.1.length = st.length) → InS st fs → holds ss fs = false
  | .sum n, st, fs, h, hw, hi => by
    rw [isT, Bool.and_eq_true] at h
    cases e : ss[n.toNat]? with
    | none => rw [e] at h; cases h.2
    | some s =>
      rw [e] at h
      have h2 := of_decide_eq_true h.2
      have ms := List.mem_of_getElem? e
      have := least_le hi (hw s ms)
      refine Bool.eq_false_iff.mpr fun z => ?_
      rw [holds, List.all_eq_true] at z
      have := of_decide_eq_true (z s ms)
      omega
  | .cut n c a b, st, fs, h, hw, hi => by
    rw [isT, Bool.and_eq_true] at h
    cases e : st[n.toNat]? with
    | none => rw [e] at h; cases h.2
    | some p =>
      rw [e] at h
      simp only [Bool.and_eq_true, decide_eq_true_eq] at h
      obtain ⟨_, ⟨⟨h1, h2⟩, h3⟩, h4⟩ := h
      have hj := (List.getElem?_eq_some_iff.mp e).1
      obtain ⟨f, ef, f1, f2⟩ := ins_at hi e
      by_cases hc : f ≤ c
      · refine isT_sound a h3 (fun s hs => (hw s hs).trans ?_) (ins_set hi ef f1 hc hj)
        simp [below]
        omega
      · refine isT_sound b h4 (fun s hs => (hw s hs).trans ?_) (ins_set hi ef (show c + 1 ≤ f by omega) f2 hj)
        simp [above]
        omega
theorem ins_snoc : ∀ {st : List Iv} {fs : List Int} {p : Iv} {x : Int}, InS st fs → p.1 ≤ x → x ≤ p.2 → InS (st ++ [p]) (fs ++ [x])
  | [], [], _, _, _, h1, h2 => ⟨h1, h2, trivial⟩
  | _ :: _, _ :: _, _, _, h, h1, h2 => ⟨h.1, h.2.1, ins_snoc h.2.2 h1 h2⟩
  | [], _ :: _, _, _, h, _, _ => h.elim
  | _ :: _, [], _, _, h, _, _ => h.elim
theorem allIn_in {st : List Iv} : ∀ i, i ≤ st.length → ∀ fs ∈ allIn (st.take i), InS (st.take i) fs
  | 0, _, fs, m => by
    simp [allIn] at m
    subst m
    trivial
  | i + 1, l, fs, m => by
    have e : st[i]? = some st[i] := List.getElem?_eq_getElem (by omega)
    rw [allIn_take e, ext, List.mem_flatMap] at m
    obtain ⟨g, mg, m⟩ := m
    obtain ⟨k, hk, rfl⟩ := List.mem_map.mp m
    have hk2 := List.mem_range.mp hk
    unfold many at hk2
    rw [List.take_succ_eq_append_getElem (by omega)]
    exact ins_snoc (allIn_in i (by omega) g mg) (by omega) (by omega)
/-- a tree: none of all fillings has all hold -/
theorem tree_none {ss : List Sm} {st : List Iv} {t : Tr} (h : isT ss st t = true) (hw : ∀ s ∈ ss, s.1.length = st.length) : ∀ fs ∈ allIn st, holds ss fs = false := fun fs m =>
  isT_sound t h hw (by
    have := allIn_in (st := st) st.length (Nat.le_refl _) fs
    rw [List.take_length] at this
    exact this m)
def size (st : List Iv) : Nat := (st.map fun p => (p.2 - p.1).toNat).sum
theorem size_cut : ∀ {st : List Iv} {j : Nat} {p r : Iv}, st[j]? = some p → (r.2 - r.1).toNat < (p.2 - p.1).toNat → size (st.take j ++ [r] ++ st.drop (j + 1)) < size st
  | [], _, _, _, e, _ => by simp at e
  | q :: st, 0, p, r, e, h => by
    simp at e
    subst e
    simp [size]
    omega
  | q :: st, j + 1, p, r, e, h => by
    have := size_cut (st := st) (j := j) (p := p) (r := r) (by simpa using e) h
    simp only [size, List.take_succ_cons, List.cons_append, List.drop_succ_cons, List.map_cons, List.sum_cons] at this ⊢
    omega
/-- a tree that is well is no deeper than its stretch lets it be -/
theorem deep_le {ss : List Sm} : ∀ (t : Tr) {st : List Iv}, isT ss st t = true → t.deep ≤ size st + 1
  | .sum n, st, _ => by simp [Tr.deep]
  | .cut n c a b, st, h => by
    rw [isT, Bool.and_eq_true] at h
    cases e : st[n.toNat]? with
    | none => rw [e] at h; cases h.2
    | some p =>
      rw [e] at h
      simp only [Bool.and_eq_true, decide_eq_true_eq] at h
      obtain ⟨_, ⟨⟨h1, h2⟩, h3⟩, h4⟩ := h
      have d1 := deep_le a h3
      have d2 := deep_le b h4
      have z1 := size_cut (r := (p.1, c)) e (by dsimp only; omega)
      have z2 := size_cut (r := (c + 1, p.2)) e (by dsimp only; omega)
      simp only [Tr.deep]
      unfold below at d1
      unfold above at d2
      omega
end LW

namespace LW
open PySem PySem.Spec PyProof.Rows L2
theorem kTn {X : Cx} {K : PySem.W.Frag} {es : List Expr} {k : Nat} {t : TGs} {n : Nat} {pos : Pos} (h : X.K = K) (hc : X.calm = true) (h1 : PGs X es t)
    (hn : (assignEach es X.env).length = n := by rfl) (hst : (assignEach es X.env).findIdx? (·.1) = none := by rfl) : PG X (.Tuple es k pos) (gTup K n t) := by
  subst h
  exact pg_tup hc h1 hn hst
/-- a list stays where another object changes -/
theorem seqNe {K : PySem.W.Frag} {H : Hp} {a p : Addr} {o : HO} {xs : List V} (h : SqL K H a xs) (ne : a ≠ p) : SqL K (upd H p o) a xs := by
  rcases h with (h | ⟨o', h⟩) | h
  · exact .inl (.inl (by show upd H p o a = _; rw [upd_ne ne]; exact h))
  · exact .inl (.inr ⟨o', by show upd H p o a = _; rw [upd_ne ne]; exact h⟩)
  · exact .inr h
/-- the least and the greatest, as the signs of the numbers say -/
def lowP : List Int → List Iv → Int
  | n :: ns, p :: ps => (if 0 < n then n * p.1 else n * p.2) + lowP ns ps
  | _, _ => 0
def highP : List Int → List Iv → Int
  | n :: ns, p :: ps => (if 0 < n then n * p.2 else n * p.1) + highP ns ps
  | _, _ => 0
def leastP (s : Sm) (st : List Iv) : Int := s.2 + lowP s.1 st
def mostP (s : Sm) (st : List Iv) : Int := s.2 + highP s.1 st
theorem lowP_take : ∀ {a : List Int} {b : List Iv} {i : Nat} {x : Int} {y : Iv}, a[i]? = some x → b[i]? = some y →
    lowP (a.take (i + 1)) (b.take (i + 1)) = lowP (a.take i) (b.take i) + (if 0 < x then x * y.1 else x * y.2) ∧ highP (a.take (i + 1)) (b.take (i + 1)) = highP (a.take i) (b.take i) + (if 0 < x then x * y.2 else x * y.1)
  | [], _, _, _, _, h, _ => by simp at h
  | _ :: _, [], _, _, _, _, h => by simp at h
  | n :: ns, p :: ps, 0, x, y, h, h' => by
    simp at h h'
    subst h h'
    simp [lowP, highP]
  | n :: ns, p :: ps, i + 1, x, y, h, h' => by
    have ih := lowP_take (a := ns) (b := ps) (i := i) (x := x) (y := y) (by simpa using h) (by simpa using h')
    simp only [List.take_succ_cons, lowP, highP]
    rw [ih.1, ih.2]
    constructor <;> omega
theorem lowP_low : ∀ {a : List Int} {b : List Iv}, (∀ p ∈ b, p.1 ≤ p.2) → lowP a b = low a b
  | [], _, _ => by simp [lowP, low]
  | _ :: _, [], _ => by simp [lowP, low]
  | n :: ns, p :: ps, h => by
    have ih := lowP_low (a := ns) (b := ps) fun q hq => h q (List.mem_cons_of_mem _ hq)
    have hp := h p (List.mem_cons_self ..)
    simp only [lowP, low, ih]
    by_cases hn : 0 < n
    · have := Int.mul_le_mul_of_nonneg_left hp (show 0 ≤ n by omega)
      rw [if_pos hn]
      omega
    · have := Int.mul_le_mul_of_nonpos_left (a := n) (by omega) hp
      rw [if_neg hn]
      omega
theorem leastP_least {s : Sm} {st : List Iv} (h : ∀ p ∈ st, p.1 ≤ p.2) : leastP s st = least s st := by
  unfold leastP least
  rw [lowP_low h]
theorem setAt {α : Type} : ∀ {l : List α} {j : Nat} {x : α}, j < l.length → l.set j x = l.take j ++ [x] ++ l.drop (j + 1)
  | [], _, _, h => by simp at h
  | a :: r, 0, x, _ => by simp
  | a :: r, j + 1, x, h => by
    have ih := setAt (l := r) (j := j) (x := x) (by simpa using h)
    simp only [List.set_cons_succ, ih, List.take_succ_cons, List.cons_append, List.drop_succ_cons]
theorem A2.set {α β : Type} {R : α → β → Prop} : ∀ {a : List α} {b : List β} {j : Nat} {x : α} {y : β}, A2 R a b → R x y → A2 R (a.set j x) (b.set j y)
  | _, _, _, _, _, .nil, _ => .nil
  | _, _, 0, _, _, .cons _ t, r => .cons r t
  | _, _, j + 1, _, _, .cons h t, r => .cons h (A2.set t r)
theorem ixN_nat {n j : Nat} (h : j < n) : ixN n (j : Int) = some j := by
  unfold ixN
  rw [if_pos (by omega), if_pos (by omega)]
  rfl
/-- by a filling in the stretch a sum is at most its greatest -/
theorem mul_high {n f : Int} {p : Iv} (h1 : p.1 ≤ f) (h2 : f ≤ p.2) : n * f ≤ if 0 < n then n * p.2 else n * p.1 := by
  by_cases h : 0 < n
  · rw [if_pos h]
    exact Int.mul_le_mul_of_nonneg_left h2 (by omega)
  · rw [if_neg h]
    exact Int.mul_le_mul_of_nonpos_left (a := n) (by omega) h1
theorem high_le : ∀ {a : List Int} {st : List Iv} {fs : List Int}, InS st fs → dot a fs ≤ highP a st ∨ a.length ≠ st.length
  | [], [], [], _ => .inl (by simp [highP, dot])
  | [], _ :: _, _, _ => .inr (by simp)
  | _ :: _, [], _, _ => .inr (by simp)
  | n :: ns, p :: ps, f :: fs, h => by
    have hm := mul_high (n := n) h.1 h.2.1
    rcases high_le (a := ns) h.2.2 with h3 | h3
    · refine .inl ?_
      simp only [highP, dot]
      omega
    · exact .inr (by simpa using h3)
  | [], [], _ :: _, h => h.elim
  | _ :: _, _ :: _, [], h => h.elim
theorem most_le {s : Sm} {st : List Iv} {fs : List Int} (h : InS st fs) (hl : s.1.length = st.length) : val s fs ≤ mostP s st := by
  rcases high_le (a := s.1) h with h | h
  · unfold mostP val
    omega
  · exact absurd hl h
theorem ins_wide : ∀ {st : List Iv} {j : Nat} {p r : Iv} {fs : List Int}, st[j]? = some p → p.1 ≤ r.1 → r.2 ≤ p.2 → InS (st.take j ++ [r] ++ st.drop (j + 1)) fs → InS st fs
  | [], _, _, _, _, e, _, _, _ => by simp at e
  | q :: qs, 0, p, r, fs, e, h1, h2, h => by
    have : q = p := by simpa using e
    subst this
    cases fs with
    | nil => exact h.elim
    | cons f t =>
      have h' : r.1 ≤ f ∧ f ≤ r.2 ∧ InS qs t := by simpa [InS] using h
      exact ⟨by omega, by omega, h'.2.2⟩
  | q :: qs, j + 1, p, r, fs, e, h1, h2, h => by
    cases fs with
    | nil => exact h.elim
    | cons f t =>
      have h' : q.1 ≤ f ∧ f ≤ q.2 ∧ InS (qs.take j ++ [r] ++ qs.drop (j + 1)) t := by simpa [InS] using h
      exact ⟨h'.1, h'.2.1, ins_wide (by simpa using e) h1 h2 h'.2.2⟩
theorem ins_low : ∀ {st : List Iv}, (∀ p ∈ st, p.1 ≤ p.2) → InS st (st.map (·.1))
  | [], _ => trivial
  | p :: ps, h => ⟨Int.le_refl _, h p (List.mem_cons_self ..), ins_low fun q hq => h q (List.mem_cons_of_mem _ hq)⟩
theorem in_allIn : ∀ {st : List Iv} {ff : List (List Int)} {f fs : List Int}, f ∈ ff → InS st fs → f ++ fs ∈ st.foldl ext ff
  | [], ff, f, [], m, _ => by simpa using m
  | [], _, _, _ :: _, _, h => h.elim
  | _ :: _, _, _, [], _, h => h.elim
  | p :: ps, ff, f, x :: fs, m, h => by
    have m1 : f ++ [x] ∈ ext ff p := by
      rw [ext, List.mem_flatMap]
      refine ⟨f, m, List.mem_map.mpr ⟨(x - p.1).toNat, List.mem_range.mpr ?_, ?_⟩⟩
      · have h1 := h.1
        have h2 := h.2.1
        unfold many
        omega
      · have h1 := h.1
        have e : p.1 + ((x - p.1).toNat : Int) = x := by omega
        rw [e]
    have q := in_allIn (st := ps) m1 h.2.2
    rw [List.append_assoc] at q
    exact q
theorem allIn_of {st : List Iv} {fs : List Int} (h : InS st fs) : fs ∈ allIn st := by
  have q := in_allIn (ff := [[]]) (f := []) (by simp) h
  simpa [allIn] using q
end LW

/-! zip(*l) of a list of one to three tuples, walked with a name as the target. -/
namespace LW
open PySem PySem.Spec PyProof.Rows L2

abbrev zCells (c0 : Value) (f : Bool) (TI TO : Addr) : Obj := { cls := .type "zip", dict := none, data := .fields #[c0, .bool f, .bool false, .ref TI, .ref TO], slots := #[] }
abbrev tCells (us : List Value) : Obj := { cls := .type "tuple", data := .seq us.toArray }
/-- what the tuple's field says: none, or the number of one that was told -/
def ToldC (c0 : Value) : Prop := c0 = .none ∨ ∃ T : Addr, c0 = rawInt T
structure ZsAt (z TI TO : Addr) (ws : List (Addr × Addr)) (h : Heap) (c0 : Value) (f : Bool) (us : List Value) (at_ : Nat → Nat) : Prop where
  z : h.get? z = some (zCells c0 f TI TO)
  ti : h.get? TI = some (tCells (ws.map fun w => Value.ref w.1))
  to : h.get? TO = some (tCells us)
  len : us.length = ws.length
  its : ∀ k w, ws[k]? = some w → h.IsTupleIter w.1 w.2 (at_ k)
structure ZsApart (z TI TO : Addr) (ws : List (Addr × Addr)) : Prop where
  zTI : z ≠ TI
  zTO : z ≠ TO
  TITO : TI ≠ TO
  out : ∀ w ∈ ws, w.1 ≠ z ∧ w.1 ≠ TI ∧ w.1 ≠ TO ∧ w.2 ≠ z ∧ w.2 ≠ TO
  own : ∀ w ∈ ws, ∀ x ∈ ws, w.2 ≠ x.1
  sep : ∀ (j k : Nat) w x, ws[j]? = some w → ws[k]? = some x → j ≠ k → w.1 ≠ x.1

section
variable {prog : Program} {w : World} {A : Around} {E : Value → Shared → Prop} {s : Shared} {z TI TO : Addr} {ws : List (Addr × Addr)}

theorem loadAny {a : Addr} {Q : Option Obj → Shared → Prop} (h : Q (s.heap.get? a) s) : wpAny (model prog w) A (loadIfAlive a) Q E s := fun _ _ _ => h

/-- whether it is free: one or the other -/
theorem free_any {c0 : Value} {f : Bool} {Q : Bool → Shared → Prop} (hc : ToldC c0) (hz : s.heap.get? z = some (zCells c0 f TI TO))
    (h : ∀ b f' h', h'.get? z = some (zCells c0 f' TI TO) → Heap.SameBut z s.heap h' → Q b { s with heap := h' }) : wpAny (model prog w) A (Builtin.SmallTypes.ownedTupleIsFree (.ref z)) Q E s := by
  unfold Builtin.SmallTypes.ownedTupleIsFree
  rcases hc with rfl | ⟨T, rfl⟩
  · exact wpAny_bind (wpAny_field hz rfl (x := .none) rfl (wpAny_pure (h true f s.heap hz (Heap.SameBut.refl _ _))))
  · refine wpAny_bind (wpAny_field hz rfl (x := rawInt T) rfl ?_)
    show wpAny _ _ (loadIfAlive ((T : Int).toNat) >>= _) _ _ _
    refine wpAny_bind (loadAny ?_)
    cases s.heap.get? (T : Int).toNat with
    | none => exact wpAny_pure (h true f s.heap hz (Heap.SameBut.refl _ _))
    | some o =>
      refine wpAny_bind (wpAny_field hz rfl (x := .bool f) rfl ?_)
      cases f with
      | true => exact wpAny_pure (h false true s.heap hz (Heap.SameBut.refl _ _))
      | false => exact wpAny_bind (wpAny_setField_rec hz (by simp) fun h1 hz1 hs1 => wpAny_pure (h false true h1 hz1 hs1))

end

/-- where the iterators stand when the first j of them were drawn from -/
def drawn (i j k : Nat) : Nat := if k < j then i + 1 else i
theorem wsAt {ws : List (Addr × Addr)} {j : Nat} {w : Addr × Addr} (h : ws[j]? = some w) : w ∈ ws := List.mem_of_getElem? h

section
variable {prog : Program} {W : World} {A : Around} {E : Value → Shared → Prop} {s : Shared} {z TI TO : Addr} {ws : List (Addr × Addr)} {i : Nat} {col : Nat → Value}

/-- h' is h but for the cells in cs -/
def Spare (cs : List Addr) (h h' : Heap) : Prop := h'.objs.size = h.objs.size ∧ ∀ c, c ∉ cs → ∀ o, h.get? c = some o → h'.get? c = some o
theorem Spare.refl (cs : List Addr) (h : Heap) : Spare cs h h := ⟨rfl, fun _ _ _ e => e⟩
theorem Spare.trans {cs ds : List Addr} {h h1 h2 : Heap} (a : Spare cs h h1) (b : Spare ds h1 h2) : Spare (cs ++ ds) h h2 :=
  ⟨b.1.trans a.1, fun c hc o e => b.2 c (fun q => hc (List.mem_append_right _ q)) o (a.2 c (fun q => hc (List.mem_append_left _ q)) o e)⟩
theorem Spare.mono {cs ds : List Addr} {h h1 : Heap} (a : Spare cs h h1) (l : ∀ c ∈ cs, c ∈ ds) : Spare ds h h1 := ⟨a.1, fun c hc o e => a.2 c (fun q => hc (l c q)) o e⟩
theorem Spare.of {c : Addr} {h h1 : Heap} (a : Heap.SameBut c h h1) : Spare [c] h h1 := ⟨a.1, fun d hd o e => a.extBut d o (by simpa using hd) e⟩

/-- the state within a turn: the first j iterators drawn from; the zip's own cell and its told tuple aside -/
structure Mid (ws : List (Addr × Addr)) (i : Nat) (col : Nat → Value) (j : Nat) (h : Heap) : Prop where
  its : ∀ k w, ws[k]? = some w → h.IsTupleIter w.1 w.2 (drawn i j k)
  val : ∀ k w, ws[k]? = some w → ∃ us : Array Value, h.IsTuple w.2 us ∧ us[i]? = some (col k)
theorem Mid.but {D : ZsApart z TI TO ws} {j : Nat} {h h' : Heap} (m : Mid ws i col j h) {cs : List Addr} (b : Spare cs h h') (l : ∀ c ∈ cs, c = z ∨ c = TO) : Mid ws i col j h' := by
  refine ⟨fun k w e => ?_, fun k w e => ?_⟩
  · have o := D.out w (wsAt e)
    exact (m.its k w e).at fun ob q => b.2 _ (fun y => by rcases l _ y with h | h <;> simp_all) ob q
  · have o := D.out w (wsAt e)
    obtain ⟨us, h1, h2⟩ := m.val k w e
    exact ⟨us, h1.at fun ob q => b.2 _ (fun y => by rcases l _ y with h | h <;> simp_all) ob q, h2⟩
/-- one drawn from -/
theorem draw1 (D : ZsApart z TI TO ws) {j : Nat} {w : Addr × Addr} (m : Mid ws i col j s.heap) (e : ws[j]? = some w) {Q : Value → Shared → Prop}
    (h : ∀ h', Mid ws i col (j + 1) h' → Spare [w.1] s.heap h' → Q (col j) { s with heap := h' }) : wpAny (model prog W) A (Builtin.SmallTypes.nextOf (.ref w.1)) Q E s := by
  obtain ⟨us, h1, h2⟩ := m.val j w e
  have hi : s.heap.IsTupleIter w.1 w.2 i := by
    have q := m.its j w e
    simpa [drawn] using q
  refine wpAny_nextOf_tuple_item hi h1 h2 fun h' hit hs => h h' ⟨fun k x ex => ?_, fun k x ex => ?_⟩ (.of hs)
  · by_cases hk : k = j
    · subst hk
      have : w = x := Option.some.inj (e.symm.trans ex)
      subst this
      simpa [drawn] using hit
    · have ne : x.1 ≠ w.1 := D.sep k j x w ex e hk
      have q := m.its k x ex
      have dr : drawn i (j + 1) k = drawn i j k := by
        unfold drawn
        by_cases h1 : k < j
        · rw [if_pos h1, if_pos (by omega)]
        · rw [if_neg h1, if_neg (by omega)]
      rw [dr]
      exact q.at fun ob y => hs.extBut _ _ ne y
  · obtain ⟨us, q1, q2⟩ := m.val k x ex
    exact ⟨us, q1.at fun ob y => hs.extBut _ _ (D.own x (wsAt ex) w (wsAt e)) y, q2⟩
end

section
variable {prog : Program} {W : World} {A : Around} {E : Value → Shared → Prop} {s : Shared} {z TI TO : Addr} {ws : List (Addr × Addr)} {i : Nat} {col : Nat → Value}
theorem updTup {T : Addr} {us : List Value} {x : Value} {k : Nat} {Q : Unit → Shared → Prop} (hT : s.heap.get? T = some (tCells us)) (lt : us.length ≤ 100)
    (h : ∀ h', h'.get? T = some (tCells (us.set k x)) → Heap.SameBut T s.heap h' → Q () { s with heap := h' }) : wpAny (model prog W) A (updateSeq T (·.setIfInBounds k x)) Q E s := by
  have sz : (100 : Nat) ≤ sizeLine := by decide
  refine wpAny_updateSeq hT rfl (h _ ?_ (Heap.SameBut.update ..)) (by simp; omega) (by simp; omega)
  rw [Heap.get?_update_self _ hT rfl]
  simp [Obj.mapSeq]
theorem dropAt {α : Type} {l : List α} {j : Nat} {x : α} {r : List α} (e : x :: r = l.drop j) : l[j]? = some x ∧ r = l.drop (j + 1) := by
  have h1 : (l.drop j)[0]? = some x := by rw [← e]; rfl
  refine ⟨by simpa using h1, ?_⟩
  have h2 : (l.drop j).drop 1 = r := by rw [← e]; rfl
  rw [← h2, List.drop_drop]
theorem dropNil {α : Type} {l : List α} {j : Nat} (e : [] = l.drop j) (h : j ≤ l.length) : j = l.length := by
  have := congrArg List.length e
  simp at this
  omega
/-- one turn: a new tuple of what the iterators gave -/
theorem zs_item {w0 : Addr × Addr} {wr : List (Addr × Addr)} (ew : ws = w0 :: wr) (D : ZsApart z TI TO ws) {c0 : Value} {f : Bool} {us : List Value} (hc : ToldC c0) (hz : s.heap.get? z = some (zCells c0 f TI TO)) (hTI : s.heap.get? TI = some (tCells (ws.map fun w => Value.ref w.1)))
    (hTO : s.heap.get? TO = some (tCells us)) (hl : us.length = ws.length) (lw : ws.length ≤ 100) (m : Mid ws i col 0 s.heap) {Q : Value → Shared → Prop}
    (h : ∀ c1 f1 us1 h', ToldC c1 → h'.get? z = some (zCells c1 f1 TI TO) → h'.get? TO = some (tCells us1) → us1.length = ws.length → Mid ws i col ws.length h' → h'.get? s.heap.objs.size = some (tCells ((List.range ws.length).map col)) → 
      (∀ c, c ∉ [z, TO] ++ ws.map (·.1) → ∀ o, s.heap.get? c = some o → h'.get? c = some o) → Q (.ref s.heap.objs.size) { s with heap := h' }) :
    wpAny (model prog W) A (Builtin.«zip.__next__» ⟨[.ref z], []⟩) (fun fin s' => ∃ v, fin = .done (.ret v) ∧ Q v s') E s := by
  have sz : (100 : Nat) ≤ sizeLine := by decide
  have zlt : z < s.heap.objs.size := Heap.lt_size hz
  have Tlt : TO < s.heap.objs.size := Heap.lt_size hTO
  have wlt : ∀ w ∈ ws, w.1 < s.heap.objs.size := fun w hw => by
    obtain ⟨k, hk⟩ := List.getElem?_of_mem hw
    obtain ⟨o, ho, _⟩ := m.its k w hk
    exact Heap.lt_size ho
  have outz : z ∉ ws.map (·.1) := fun q => by
    obtain ⟨w, hw, e⟩ := List.mem_map.mp q
    exact (D.out w hw).1 e
  have outT : TO ∉ ws.map (·.1) := fun q => by
    obtain ⟨w, hw, e⟩ := List.mem_map.mp q
    exact (D.out w hw).2.2.1 e
  have mem1 : ∀ {w}, w ∈ ws → ∀ c ∈ [w.1], c ∈ [z, TO] ++ ws.map (·.1) := fun hw c hc => by
    rw [List.mem_singleton.mp hc]
    exact List.mem_append_right _ (List.mem_map_of_mem hw)
  have mid : ∀ {j : Nat} {h h' : Heap} {cs : List Addr}, Mid ws i col j h → Spare cs h h' → (∀ c ∈ cs, c = z ∨ c = TO) → Mid ws i col j h' := fun m b l => Mid.but (D := D) m b l
  have push1 : ∀ (h : Heap) (o : Obj) (hf : o.isFreed = false), ∀ c ob, h.get? c = some ob → (h.push o).get? c = some ob := fun h o _ c ob e => Heap.get?_push_of_some _ e
  have tz : ∀ {b : List Addr} {h h' : Heap}, (∀ c ∈ b, c ∈ [z, TO] ++ ws.map (·.1)) → Spare ([z, TO] ++ ws.map (·.1)) s.heap h → Spare b h h' → Spare ([z, TO] ++ ws.map (·.1)) s.heap h' := fun hb a b => (Spare.trans a b).mono fun c hc => by
    rcases List.mem_append.mp hc with q | q
    · exact q
    · exact hb c q
  subst ew
  show wpAny _ _ (field (.ref z) 2 >>= _) _ _ _
  refine wpAny_bind (wpAny_field hz rfl (x := .bool false) rfl ?_)
  show wpAny _ _ (field (.ref z) 3 >>= _) _ _ _
  refine wpAny_bind (wpAny_field hz rfl (x := .ref TI) rfl ?_)
  refine wpAny_bind (wpAny_seqItems hTI rfl ?_)
  show wpAny _ _ (Builtin.SmallTypes.ownedTupleIsFree (.ref z) >>= _) _ _ _
  refine wpAny_bind (free_any hc hz fun b f1 h1 hz1 hs1 => ?_)
  have b1 : Spare ([z, TO] ++ (w0 :: wr).map (·.1)) s.heap h1 := (Spare.of hs1).mono fun c hc => by rw [List.mem_singleton.mp hc]; simp
  have m1 := mid m (Spare.of hs1) fun c hc => .inl (List.mem_singleton.mp hc)
  have hTO1 : h1.get? TO = some (tCells us) := hs1.extBut _ _ D.zTO.symm hTO
  generalize hws : w0 :: wr = ws at *
  cases b with
  | true =>
    simp only [if_true]
    refine wpAny_bind (wpAny_rule ?_)
    refine wpAny_bind (wpAny_field hz1 rfl (x := .ref TO) rfl ?_)
    refine wpAny_bind (wpAny_setField_rec hz1 (by simp) fun h2 hz2 hs2 => ?_)
    replace hz2 : h2.get? z = some (zCells .ellipsis f1 TI TO) := hz2
    replace hs2 : Heap.SameBut z h1 h2 := hs2
    have b2 := tz (b := [z]) (by simp) b1 (Spare.of hs2)
    have m2 := mid m1 (Spare.of hs2) fun c hc => .inl (List.mem_singleton.mp hc)
    have hTO2 : h2.get? TO = some (tCells us) := hs2.extBut _ _ D.zTO.symm hTO1
    refine wpAny_bind ?_
    refine wpAny_forIn_list _ (fun rest b s' => b = (none, ()) ∧ ∃ (j : Nat) (h3 : Heap) (us3 : List Value), s' = { s with heap := h3 } ∧ rest = (ws.map fun w => Value.ref w.1).zipIdx.drop j ∧ j ≤ ws.length ∧ h3.get? z = some (zCells .ellipsis f1 TI TO) ∧ h3.get? TO = some (tCells us3) ∧ us3.length = ws.length ∧
      (∀ k, k < j → us3[k]? = some (col k)) ∧ Mid ws i col j h3 ∧ Spare ([z, TO] ++ ws.map (·.1)) s.heap h3) _ ?_ ?_ _ _ ⟨rfl, 0, h2, us, rfl, rfl, by omega, hz2, hTO2, hl, fun k hk => by omega, m2, b2⟩
    · rintro x rest b s' ⟨rfl, j, h3, us3, rfl, er, hj, gz, gT, l3, hv, m3, b3⟩
      obtain ⟨ex, er2⟩ := dropAt er
      have hj2 : j < ws.length := by
        have := (List.getElem?_eq_some_iff.mp ex).1
        simpa using this
      have ewj : ws[j]? = some ws[j] := List.getElem?_eq_getElem hj2
      have exx : x = (Value.ref ws[j].1, j) := by
        simp [List.getElem?_zipIdx, hj2] at ex
        exact ex.symm
      subst exx
      refine wpAny_bind (wpAny_onRaise ?_)
      show wpAny _ _ (Builtin.SmallTypes.nextOf (.ref ws[j].1) >>= _) _ _ _
      refine wpAny_bind (draw1 (s := { s with heap := h3 }) D m3 ewj fun h4 m4 b4 => wpAny_pure ?_)
      replace b4 : Spare [ws[j].1] h3 h4 := b4
      have nz : z ∉ [ws[j].1] := fun q => (D.out _ (wsAt ewj)).1 (List.mem_singleton.mp q).symm
      have nT : TO ∉ [ws[j].1] := fun q => (D.out _ (wsAt ewj)).2.2.1 (List.mem_singleton.mp q).symm
      have gT4 := b4.2 _ nT _ gT
      have gz4 := b4.2 _ nz _ gz
      refine wpAny_bind (wpAny_seqItems (s := { s with heap := h4 }) gT4 rfl ?_)
      refine wpAny_bind (updTup (s := { s with heap := h4 }) gT4 (by omega) fun h5 gT5 hs5 => ?_)
      replace hs5 : Heap.SameBut TO h4 h5 := hs5
      refine wpAny_bind (wpAny_letGo (wpAny_pure ⟨rfl, j + 1, h5, _, rfl, er2, by omega, hs5.extBut _ _ D.zTO gz4, gT5, by simp [l3], fun k hk => ?_, mid m4 (Spare.of hs5) fun c hc => .inr (List.mem_singleton.mp hc), tz (by simp) (tz (mem1 (wsAt ewj)) b3 b4) (Spare.of hs5)⟩))
      by_cases ek : k = j
      · subst ek
        rw [List.getElem?_set_self (by omega)]
      · rw [List.getElem?_set_ne (by omega)]
        exact hv k (by omega)
    · rintro b s' ⟨rfl, j, h3, us3, rfl, er, hj, gz, gT, l3, hv, m3, b3⟩
      have ej : j = ws.length := by
        have := dropNil er (by simp; omega)
        simpa using this
      subst ej
      have eus : us3 = (List.range ws.length).map col := by
        apply List.ext_getElem?
        intro k
        by_cases hk : k < ws.length
        · rw [hv k hk]
          simp [hk]
        · rw [List.getElem?_eq_none (by omega), List.getElem?_eq_none (by simp; omega)]
      have sz3 : h3.objs.size = s.heap.objs.size := b3.1
      refine wpAny_bind (wpAny_seqItems (s := { s with heap := h3 }) gT rfl ?_)
      refine wpAny_bind (wpAny_newTuple (s := { s with heap := h3 }) ?_ (by simp; omega))
      show wpAny _ _ (Builtin.SmallTypes.ownedTupleHandOut (.ref z) (.ref h3.objs.size) >>= _) _ _ _
      refine wpAny_bind ?_
      unfold Builtin.SmallTypes.ownedTupleHandOut
      have gz4 : (h3.push (tCells us3)).get? z = some (zCells .ellipsis f1 TI TO) := Heap.get?_push_of_some _ gz
      refine wpAny_bind (wpAny_setField_rec (s := { s with heap := h3.push (tCells us3) }) gz4 (by simp) fun h5 gz5 hs5 => ?_)
      replace gz5 : h5.get? z = some (zCells (rawInt h3.objs.size) f1 TI TO) := gz5
      refine wpAny_setField_rec (s := { s with heap := h5 }) gz5 (by simp) fun h6 gz6 hs6 => ?_
      replace gz6 : h6.get? z = some (zCells (rawInt h3.objs.size) false TI TO) := gz6
      replace hs5 : Heap.SameBut z (h3.push (tCells us3)) h5 := hs5
      replace hs6 : Heap.SameBut z h5 h6 := hs6
      have up : ∀ c o, c ≠ z → h3.get? c = some o → h6.get? c = some o := fun c o cz e => hs6.extBut _ _ cz (hs5.extBut _ _ cz (Heap.get?_push_of_some _ e))
      have gN : h6.get? s.heap.objs.size = some (tCells us3) := by
        have nz : s.heap.objs.size ≠ z := Nat.ne_of_gt zlt
        refine hs6.extBut _ _ nz (hs5.extBut _ _ nz ?_)
        rw [← sz3]
        exact Heap.get?_push_size _ rfl
      refine wpAny_pure ⟨_, rfl, ?_⟩
      show Q (.ref h3.objs.size) _
      rw [eus] at gN
      have fin := h (rawInt h3.objs.size) false us3 h6 (.inr ⟨_, rfl⟩) gz6 (up _ _ D.zTO.symm gT) l3 ?_ gN ?_
      · rw [sz3]
        exact fin
      · refine ⟨fun k w e => ?_, fun k w e => ?_⟩
        · exact (m3.its k w e).at fun ob q => up _ _ (D.out w (wsAt e)).1 q
        · obtain ⟨vs, v1, v2⟩ := m3.val k w e
          exact ⟨vs, v1.at fun ob q => up _ _ (D.out w (wsAt e)).2.2.2.1 q, v2⟩
      · intro c hc o e
        exact up c o (fun q => hc (by simp [q])) (b3.2 c hc o e)
  | false =>
    simp only [Bool.false_eq_true, if_false]
    refine wpAny_bind ?_
    rw [← Array.forIn_toList]
    refine wpAny_forIn_list _ (fun rest b s' => ∃ (j : Nat) (h3 : Heap), b = (none, ((List.range j).map col).toArray) ∧ s' = { s with heap := h3 } ∧ rest = (ws.map fun w => Value.ref w.1).drop j ∧ j ≤ ws.length ∧ h3.get? z = some (zCells c0 f1 TI TO) ∧ h3.get? TO = some (tCells us) ∧
      Mid ws i col j h3 ∧ Spare ([z, TO] ++ ws.map (·.1)) s.heap h3) _ ?_ ?_ _ _ ⟨0, h1, rfl, rfl, by simp, by omega, hz1, hTO1, m1, b1⟩
    · rintro x rest b s' ⟨j, h3, rfl, rfl, er, hj, gz, gT, m3, b3⟩
      obtain ⟨ex, er2⟩ := dropAt er
      have hj2 : j < ws.length := by
        have := (List.getElem?_eq_some_iff.mp ex).1
        simpa using this
      have ewj : ws[j]? = some ws[j] := List.getElem?_eq_getElem hj2
      have exx : x = Value.ref ws[j].1 := by
        simp [hj2] at ex
        exact ex.symm
      subst exx
      refine wpAny_bind (wpAny_holding ?_)
      show wpAny _ _ (Builtin.SmallTypes.nextOf (.ref ws[j].1) >>= _) _ _ _
      refine wpAny_bind (draw1 (s := { s with heap := h3 }) D m3 ewj fun h4 m4 b4 => wpAny_pure ?_)
      replace b4 : Spare [ws[j].1] h3 h4 := b4
      have nz : z ∉ [ws[j].1] := fun q => (D.out _ (wsAt ewj)).1 (List.mem_singleton.mp q).symm
      have nT : TO ∉ [ws[j].1] := fun q => (D.out _ (wsAt ewj)).2.2.1 (List.mem_singleton.mp q).symm
      refine wpAny_pure ⟨j + 1, h4, ?_, rfl, er2, by omega, b4.2 _ nz _ gz, b4.2 _ nT _ gT, m4, tz (mem1 (wsAt ewj)) b3 b4⟩
      simp [List.range_succ]
    · rintro b s' ⟨j, h3, rfl, rfl, er, hj, gz, gT, m3, b3⟩
      have ej : j = ws.length := by
        have := dropNil er (by simp; omega)
        simpa using this
      subst ej
      have sz3 : h3.objs.size = s.heap.objs.size := b3.1
      refine wpAny_bind (wpAny_newTuple (s := { s with heap := h3 }) ?_ (by simp; omega))
      refine wpAny_pure ⟨_, rfl, ?_⟩
      have up : ∀ (o : Obj) c ob, h3.get? c = some ob → (h3.push o).get? c = some ob := fun o c ob e => Heap.get?_push_of_some _ e
      have fin := h c0 f1 us (h3.push (tCells ((List.range ws.length).map col))) hc (up _ _ _ gz) (up _ _ _ gT) hl ⟨fun k w e => (m3.its k w e).at fun ob q => up _ _ _ q, fun k w e => ?_⟩ ?_ fun c hc o e => up _ _ _ (b3.2 c hc o e)
      · show Q (.ref h3.objs.size) _
        rw [sz3]
        exact fin
      · obtain ⟨vs, v1, v2⟩ := m3.val k w e
        exact ⟨vs, v1.at fun ob q => up _ _ _ q, v2⟩
      · rw [← sz3]
        exact Heap.get?_push_size _ rfl
end

section
variable {prog : Program} {W : World} {A : Around} {E : Value → Shared → Prop} {s : Shared} {z TI TO : Addr} {ws : List (Addr × Addr)} {i : Nat}
/-- the first iterator has ended -/
theorem zs_end {w0 : Addr × Addr} {wr : List (Addr × Addr)} (ew : ws = w0 :: wr) (hh : A.handled = none) (D : ZsApart z TI TO ws) {c0 : Value} {f : Bool} (hc : ToldC c0) (hz : s.heap.get? z = some (zCells c0 f TI TO)) (hTI : s.heap.get? TI = some (tCells (ws.map fun w => Value.ref w.1)))
    {us : List Value} (hTO : s.heap.get? TO = some (tCells us)) (hi : s.heap.IsTupleIter w0.1 w0.2 i) {vs : Array Value} (hv : s.heap.IsTuple w0.2 vs) (hn : vs[i]? = none) {Q : Fin → Shared → Prop}
    (hE : ∀ h' e, (∀ c, c ∉ [z, TO] ++ ws.map (·.1) → ∀ o, s.heap.get? c = some o → h'.get? c = some o) → (∃ o, h'.get? e = some o ∧ o.cls = .type "StopIteration") → E (.ref e) { s with heap := h' }) :
    wpAny (model prog W) A (Builtin.«zip.__next__» ⟨[.ref z], []⟩) Q E s := by
  subst ew
  have o := D.out w0 (List.mem_cons_self ..)
  show wpAny _ _ (field (.ref z) 2 >>= _) _ _ _
  refine wpAny_bind (wpAny_field hz rfl (x := .bool false) rfl ?_)
  show wpAny _ _ (field (.ref z) 3 >>= _) _ _ _
  refine wpAny_bind (wpAny_field hz rfl (x := .ref TI) rfl ?_)
  refine wpAny_bind (wpAny_seqItems hTI rfl ?_)
  show wpAny _ _ (Builtin.SmallTypes.ownedTupleIsFree (.ref z) >>= _) _ _ _
  refine wpAny_bind (free_any hc hz fun b f1 h1 hz1 hs1 => ?_)
  cases b with
  | true =>
    simp only [if_true]
    refine wpAny_bind (wpAny_rule ?_)
    refine wpAny_bind (wpAny_field hz1 rfl (x := .ref TO) rfl ?_)
    refine wpAny_bind (wpAny_setField_rec hz1 (by simp) fun h2 hz2 hs2 => ?_)
    replace hz2 : h2.get? z = some (zCells .ellipsis f1 TI TO) := hz2
    replace hs2 : Heap.SameBut z h1 h2 := hs2
    have k2 : ∀ c, c ≠ z → ∀ ob, s.heap.get? c = some ob → h2.get? c = some ob := fun c hc ob e => hs2.extBut _ _ hc (hs1.extBut _ _ hc e)
    refine wpAny_bind ?_
    rw [List.map_cons, List.zipIdx_cons, List.forIn_cons]
    refine wpAny_bind (wpAny_bind (wpAny_onRaise ?_))
    show wpAny _ _ (Builtin.SmallTypes.nextOf (.ref w0.1) >>= _) _ _ _
    refine wpAny_bind (wpAny_nextOf_tuple_end (s := { s with heap := h2 }) hh (hi.at fun ob q => k2 _ o.1 ob q) (hv.at fun ob q => k2 _ o.2.2.2.1 ob q) hn fun h3 e hs3 he => ?_)
    have hz3 : h3.get? z = some (zCells .ellipsis f1 TI TO) := hs3 _ _ o.1.symm hz2
    refine wpAny_setField_rec (s := { s with heap := h3 }) hz3 (by simp) fun h4 hz4 hs4 => ?_
    replace hs4 : Heap.SameBut z h3 h4 := hs4
    obtain ⟨oe, e1, e2⟩ := he
    have ez : e ≠ z := fun q => by
      subst q
      rw [hz3] at e1
      cases e1
      injection e2 with q
      exact absurd q (by decide)
    refine hE h4 e (fun c hc ob y => ?_) ⟨oe, hs4.extBut _ _ ez e1, e2⟩
    have c1 : c ≠ z := fun q => hc (by simp [q])
    have c2 : c ≠ w0.1 := fun q => hc (by simp [q])
    exact hs4.extBut _ _ c1 (hs3 _ _ c2 (k2 c c1 ob y))
  | false =>
    simp only [Bool.false_eq_true, if_false]
    refine wpAny_bind ?_
    rw [← Array.forIn_toList]
    have k1 : ∀ c, c ≠ z → ∀ ob, s.heap.get? c = some ob → h1.get? c = some ob := fun c hc ob e => hs1.extBut _ _ hc e
    have e0 : ((w0 :: wr).map fun w => Value.ref w.1).toArray.toList = Value.ref w0.1 :: wr.map fun w => Value.ref w.1 := by simp
    rw [e0, List.forIn_cons]
    refine wpAny_bind (wpAny_bind (wpAny_holding ?_))
    show wpAny _ _ (Builtin.SmallTypes.nextOf (.ref w0.1) >>= _) _ _ _
    refine wpAny_bind (wpAny_nextOf_tuple_end (s := { s with heap := h1 }) hh (hi.at fun ob q => k1 _ o.1 ob q) (hv.at fun ob q => k1 _ o.2.2.2.1 ob q) hn fun h3 e hs3 he => ?_)
    refine hE h3 e (fun c hc ob y => ?_) he
    have c1 : c ≠ z := fun q => hc (by simp [q])
    have c2 : c ≠ w0.1 := fun q => hc (by simp [q])
    exact hs3 _ _ c2 (k1 c c1 ob y)
theorem zs_nextItem {Q : Option Value → Shared → Prop} {o : Obj} (hz : s.heap.get? z = some o) (hT : o.cls = .type "zip")
    (h : wpAny (model prog W) A.in1 (Builtin.«zip.__next__» ⟨[.ref z], []⟩) (fun fin s' => ∃ v, fin = .done (.ret v) ∧ Q (some v) s') (fun e s' => ∃ a, e = .ref a ∧ (∃ o, s'.heap.get? a = some o ∧ o.cls = .type "StopIteration") ∧ Q none s') s) : wpAny (model prog W) A (pyNext (.ref z)) Q E s := by
  have ty : s.TypeIs (.ref z) "zip" := ⟨_, hz, hT⟩
  unfold pyNext
  refine wpAny_bind (wpAny_attempt (wpAny_callSpecial?_slot (name := Str.ofString "__next__") ty F.slot_zip_next ?_))
  refine wpAny_call_entry F.slot_zip_next ty F.entry_zip_next ?_ (F.args_zip_next_1 _)
  refine wpAny_mono h (fun fin s1 ⟨v, e, q⟩ => ⟨v, e, wpAny_pure q⟩) fun e s1 ⟨a, ea, ⟨o, ho, hc⟩, q⟩ => ?_
  subst ea
  exact wpAny_bind (wpAny_isInstance (T := "StopIteration") (b := true) ⟨o, ho, hc⟩ isSubtype_stop (wpAny_pure q))
end

/-! ### it begins -/
theorem ntc1 (a : Value) : checkTypeCall "zip" ⟨[a], []⟩ = pure () := by kernel_rfl
theorem nnc1 (a : Value) : checkBuiltinCall "zip.__new__" ⟨[.type "zip", a], []⟩ = pure () := by kernel_rfl
section
variable {prog : Program} {W : World} {A : Around} {E : Value → Shared → Prop} {s : Shared}
/-- what stands behind the making of it: n the first new cell -/
structure Zs0 (h h' : Heap) (as : List Addr) : Prop where
  z : h'.get? (h.objs.size + as.length + 2) = some (zCells .none false (h.objs.size + as.length) (h.objs.size + as.length + 1))
  ti : h'.get? (h.objs.size + as.length) = some (tCells ((List.range as.length).map fun k => Value.ref (h.objs.size + k)))
  to : h'.get? (h.objs.size + as.length + 1) = some (tCells (as.map fun _ => Value.none))
  its : ∀ k a, as[k]? = some a → h'.IsTupleIter (h.objs.size + k) a 0
  keep : ∀ c o, h.get? c = some o → h'.get? c = some o
abbrev itO (a : Addr) : Obj := { cls := .type "tuple_iterator", data := .fields #[.ref a, .int 0 0] }
theorem meets_zs1 {a : Addr} {us : Array Value} :
    Meets (Builtin.«zip.__new__» ⟨[.type "zip", .ref a], []⟩) (fun _ R s => s.heap.IsTuple a us ∧ ∀ h', Zs0 s.heap h' [a] → R (.ok (.ret (.ref (s.heap.objs.size + 3)))) { s with heap := h' }) :=
  .of_wp fun prog w A R s h => by
    obtain ⟨hp, g, d, tk, os⟩ := s
    obtain ⟨h1, h⟩ := h
    have sub := sub_zip
    have step : ∀ {A' : Around} {E : Value → Shared → Prop} {Q : Value → Shared → Prop}, Q (.ref hp.objs.size) ⟨hp.push (itO a), g, d, tk, os⟩ → wpAny (model prog w) A' (pyIter (.ref a)) Q E ⟨hp, g, d, tk, os⟩ :=
      fun q => (begins_tuple a us).iter prog w _ _ ⟨hp, g, d, tk, os⟩ _ h1 q
    wp_walk using step
    refine ⟨_, rfl, ?_⟩
    have s1 : (hp.push (itO a)).objs.size = hp.objs.size + 1 := Heap.size_push ..
    have s2 : ((hp.push (itO a)).push (tCells [Value.ref hp.objs.size])).objs.size = hp.objs.size + 2 := by rw [Heap.size_push, s1]
    have s3 : (((hp.push (itO a)).push (tCells [Value.ref hp.objs.size])).push (tCells [Value.none])).objs.size = hp.objs.size + 3 := by rw [Heap.size_push, s2]
    have fin := h ((((hp.push (itO a)).push (tCells [Value.ref hp.objs.size])).push (tCells [Value.none])).push (zCells .none false (hp.push (itO a)).objs.size ((hp.push (itO a)).push (tCells [Value.ref hp.objs.size])).objs.size)) ⟨?_, ?_, ?_, fun k x e => ?_, fun c o e => ?_⟩
    · rw [← s3] at fin
      exact fin
    · show Heap.get? _ (hp.objs.size + 3) = some (zCells .none false (hp.objs.size + 1) (hp.objs.size + 2))
      rw [← s3, Heap.get?_push_size _ rfl, s1, s2]
    · show Heap.get? _ (hp.objs.size + 1) = some (tCells [Value.ref hp.objs.size])
      rw [← s1]
      exact Heap.get?_push_of_some _ (Heap.get?_push_of_some _ (Heap.get?_push_size _ rfl))
    · show Heap.get? _ (hp.objs.size + 2) = some (tCells [Value.none])
      rw [← s2]
      exact Heap.get?_push_of_some _ (Heap.get?_push_size _ rfl)
    · cases k with
      | zero =>
        have : a = x := by simpa using e
        subst this
        exact ⟨_, Heap.get?_push_of_some _ (Heap.get?_push_of_some _ (Heap.get?_push_of_some _ (Heap.get?_push_size _ rfl))), rfl, rfl⟩
      | succ k => simp at e
    · exact Heap.get?_push_of_some _ (Heap.get?_push_of_some _ (Heap.get?_push_of_some _ (Heap.get?_push_of_some _ e)))
/-- the call, of one to three tuples -/
theorem zs_starts {as : List Addr} (l1 : 1 ≤ as.length) (l3 : as.length ≤ 3) (ht : ∀ a ∈ as, ∃ us, s.heap.IsTuple a us) {Q : Value → Shared → Prop}
    (h : ∀ h', Zs0 s.heap h' as → Q (.ref (s.heap.objs.size + as.length + 2)) { s with heap := h' }) : wpAny (model prog W) A (call (.type "zip") (as.map Value.ref)) Q E s := by
  match as, l1, l3 with
  | [a], _, _ =>
    obtain ⟨us, hu⟩ := ht a (by simp)
    exact callType_new F.called_zip (by decide) (ntc1 _) (nnc1 _) (fun obj => F.args_object_init_2 obj _) F.entry_zip_new meets_zs1 ⟨hu, fun h' z => ⟨⟨_, z.z, rfl⟩, h h' z⟩⟩
  | [a, b], _, _ =>
    obtain ⟨us, hu⟩ := ht a (by simp)
    obtain ⟨vs, hv⟩ := ht b (by simp)
    refine zip_begins2 (begins_tuple a us) (begins_tuple b vs) hu hv fun h' hz hTI hTO g1 g2 hsz hk => h h' ⟨hz, hTI, hTO, fun k x e => ?_, hk⟩
    match k, e with
    | 0, e =>
      have : a = x := by simpa using e
      subst this
      exact ⟨_, g1, rfl, rfl⟩
    | 1, e =>
      have : b = x := by simpa using e
      subst this
      exact ⟨_, g2, rfl, rfl⟩
    | k + 2, e => simp at e
  | [a, b, c], _, _ =>
    obtain ⟨us, hu⟩ := ht a (by simp)
    obtain ⟨vs, hv⟩ := ht b (by simp)
    obtain ⟨xs, hx⟩ := ht c (by simp)
    refine zip_begins3 (begins_tuple a us) (begins_tuple b vs) (begins_tuple c xs) hu hv hx fun h' hz hTI hTO g1 g2 g3 hsz hk => h h' ⟨hz, hTI, hTO, fun k x e => ?_, hk⟩
    match k, e with
    | 0, e =>
      have : a = x := by simpa using e
      subst this
      exact ⟨_, g1, rfl, rfl⟩
    | 1, e =>
      have : b = x := by simpa using e
      subst this
      exact ⟨_, g2, rfl, rfl⟩
    | 2, e =>
      have : c = x := by simpa using e
      subst this
      exact ⟨_, g3, rfl, rfl⟩
    | k + 3, e => simp at e
  | _ :: _ :: _ :: _ :: _, _, l => exact absurd l (by simp)
end
end LW

/-! list(enumerate(l)) of a list l. -/
namespace LW
open PySem PySem.Spec PyProof.Rows L2

abbrev eCells (c0 : Value) (f : Bool) (it : Addr) (i : Nat) (old : Value) : Obj := { cls := .type "enumerate", dict := none, data := .fields #[c0, .bool f, .ref it, rawInt (i : Int), .none, old], slots := #[] }
section
variable {prog : Program} {W : World} {A : Around} {E : Value → Shared → Prop} {s : Shared} {e it l : Addr}
theorem freeE_any {c0 old : Value} {f : Bool} {i : Nat} {Q : Bool → Shared → Prop} (hc : ToldC c0) (he : s.heap.get? e = some (eCells c0 f it i old))
    (h : ∀ b f' h', h'.get? e = some (eCells c0 f' it i old) → Heap.SameBut e s.heap h' → Q b { s with heap := h' }) : wpAny (model prog W) A (Builtin.SmallTypes.ownedTupleIsFree (.ref e)) Q E s := by
  unfold Builtin.SmallTypes.ownedTupleIsFree
  rcases hc with rfl | ⟨T, rfl⟩
  · exact wpAny_bind (wpAny_field he rfl (x := .none) rfl (wpAny_pure (h true f s.heap he (Heap.SameBut.refl _ _))))
  · refine wpAny_bind (wpAny_field he rfl (x := rawInt T) rfl ?_)
    show wpAny _ _ (loadIfAlive ((T : Int).toNat) >>= _) _ _ _
    refine wpAny_bind (loadAny ?_)
    cases s.heap.get? (T : Int).toNat with
    | none => exact wpAny_pure (h true f s.heap he (Heap.SameBut.refl _ _))
    | some o =>
      refine wpAny_bind (wpAny_field he rfl (x := .bool f) rfl ?_)
      cases f with
      | true => exact wpAny_pure (h false true s.heap he (Heap.SameBut.refl _ _))
      | false => exact wpAny_bind (wpAny_setField_rec he (by simp) fun h1 he1 hs1 => wpAny_pure (h false true h1 he1 hs1))
/-- one turn -/
theorem en_item {c0 old : Value} {f : Bool} {i : Nat} {items : Array Value} {x : Value} (hc : ToldC c0) (he : s.heap.get? e = some (eCells c0 f it i old)) (hit : s.heap.IsListIter it l i) (hl : s.heap.IsList l items) (hx : items[i]? = some x) (ne : e ≠ it) {Q : Value → Shared → Prop}
    (h : ∀ c1 f1 old1 h', ToldC c1 → h'.get? e = some (eCells c1 f1 it (i + 1) old1) → h'.IsListIter it l (i + 1) → h'.get? s.heap.objs.size = some (tCells [.int (i : Int) s.toks, x]) → (∀ b, b ≠ e → b ≠ it → ∀ o, s.heap.get? b = some o → h'.get? b = some o) → Q (.ref s.heap.objs.size) { s with heap := h', toks := s.toks + 1 }) :
    wpAny (model prog W) A (Builtin.«enumerate.__next__» ⟨[.ref e], []⟩) (fun fin s' => ∃ v, fin = .done (.ret v) ∧ Q v s') E s := by
  obtain ⟨hp, g, d, tk, os⟩ := s
  have lt : e < hp.objs.size := Heap.lt_size he
  show wpAny _ _ (field (.ref e) 2 >>= _) _ _ _
  refine wpAny_bind (wpAny_field he rfl (x := .ref it) rfl ?_)
  refine wpAny_bind (wpAny_nextOf_list_item hit hl hx fun h1 hit1 hs1 => ?_)
  replace hs1 : Heap.SameBut it hp h1 := hs1
  have he1 : h1.get? e = some (eCells c0 f it i old) := (hs1.2 e ne).trans he
  show wpAny _ _ (field (.ref e) 3 >>= _) _ _ ⟨h1, g, d, tk, os⟩
  refine wpAny_bind (wpAny_field he1 rfl (x := rawInt (i : Int)) rfl ?_)
  show wpAny _ _ (field (.ref e) 4 >>= _) _ _ ⟨h1, g, d, tk, os⟩
  refine wpAny_bind (wpAny_field he1 rfl (x := .none) rfl ?_)
  show wpAny _ _ (mkInt (i : Int) >>= _) _ _ ⟨h1, g, d, tk, os⟩
  refine wpAny_bind (wpAny_mkInt ?_)
  show wpAny _ _ (setField (.ref e) 3 (rawInt ((i : Int) + 1)) >>= _) _ _ ⟨h1, g, d, tk + 1, os⟩
  refine wpAny_bind (wpAny_setField_rec he1 (by simp) fun h2 he2 hs2 => ?_)
  replace hs2 : Heap.SameBut e h1 h2 := hs2
  replace he2 : h2.get? e = some (eCells c0 f it (i + 1) old) := he2
  show wpAny _ _ (setField (.ref e) 4 .none >>= _) _ _ ⟨h2, g, d, tk + 1, os⟩
  refine wpAny_bind (wpAny_setField_rec he2 (by simp) fun h3 he3 hs3 => ?_)
  replace hs3 : Heap.SameBut e h2 h3 := hs3
  replace he3 : h3.get? e = some (eCells c0 f it (i + 1) old) := he3
  show wpAny _ _ (newTuple [.int (i : Int) tk, x] >>= _) _ _ ⟨h3, g, d, tk + 1, os⟩
  refine wpAny_bind (wpAny_newTuple ?_)
  have sz : h3.objs.size = hp.objs.size := by rw [hs3.1, hs2.1, hs1.1]
  have up3 : ∀ b, b ≠ e → b ≠ it → ∀ o, hp.get? b = some o → h3.get? b = some o := fun b n1 n2 o q => hs3.extBut _ _ n1 (hs2.extBut _ _ n1 (hs1.extBut _ _ n2 q))
  have hit3 : h3.IsListIter it l (i + 1) := by
    obtain ⟨o, q, r⟩ := hit1
    exact ⟨o, hs3.extBut _ _ ne.symm (hs2.extBut _ _ ne.symm q), r⟩
  have he4 : (h3.push (tCells [.int (i : Int) tk, x])).get? e = some (eCells c0 f it (i + 1) old) := Heap.get?_push_of_some _ he3
  have gT : (h3.push (tCells [.int (i : Int) tk, x])).get? hp.objs.size = some (tCells [.int (i : Int) tk, x]) := by
    rw [← sz]
    exact Heap.get?_push_size _ rfl
  have hit4 : (h3.push (tCells [.int (i : Int) tk, x])).IsListIter it l (i + 1) := by
    obtain ⟨o, q, r⟩ := hit3
    exact ⟨o, Heap.get?_push_of_some _ q, r⟩
  have up4 : ∀ b, b ≠ e → b ≠ it → ∀ o, hp.get? b = some o → (h3.push (tCells [.int (i : Int) tk, x])).get? b = some o := fun b n1 n2 o q => Heap.get?_push_of_some _ (up3 b n1 n2 o q)
  show wpAny _ _ (Builtin.SmallTypes.ownedTupleIsFree (.ref e) >>= _) _ _ ⟨h3.push (tCells [.int (i : Int) tk, x]), g, d, tk + 1, os⟩
  rw [sz]
  generalize h3.push (tCells [.int (i : Int) tk, x]) = h4 at *
  have eT : hp.objs.size ≠ e := Nat.ne_of_gt lt
  refine wpAny_bind (freeE_any (s := ⟨h4, g, d, tk + 1, os⟩) hc he4 fun b f5 h5 he5 hs5 => ?_)
  replace hs5 : Heap.SameBut e h4 h5 := hs5
  have hit5 : h5.IsListIter it l (i + 1) := by
    obtain ⟨o, q, r⟩ := hit4
    exact ⟨o, hs5.extBut _ _ ne.symm q, r⟩
  cases b with
  | false =>
    simp only [Bool.false_eq_true, if_false]
    exact wpAny_pure ⟨_, rfl, h c0 f5 old h5 hc he5 hit5 (hs5.extBut _ _ eT gT) fun b n1 n2 o q => hs5.extBut _ _ n1 (up4 b n1 n2 o q)⟩
  | true =>
    simp only [if_true]
    refine wpAny_bind (wpAny_rule ?_)
    refine wpAny_bind (wpAny_field he5 rfl (x := old) rfl ?_)
    refine wpAny_bind (wpAny_setField_rec he5 (by simp) fun h6 he6 hs6 => ?_)
    replace he6 : h6.get? e = some (eCells c0 f5 it (i + 1) x) := he6
    replace hs6 : Heap.SameBut e h5 h6 := hs6
    refine wpAny_bind ?_
    unfold Builtin.SmallTypes.ownedTupleHandOut
    refine wpAny_bind (wpAny_setField_rec (s := ⟨h6, g, d, tk + 1, os⟩) he6 (by simp) fun h7 he7 hs7 => ?_)
    replace he7 : h7.get? e = some (eCells (rawInt hp.objs.size) f5 it (i + 1) x) := he7
    replace hs7 : Heap.SameBut e h6 h7 := hs7
    refine wpAny_setField_rec (s := ⟨h7, g, d, tk + 1, os⟩) he7 (by simp) fun h8 he8 hs8 => ?_
    replace he8 : h8.get? e = some (eCells (rawInt hp.objs.size) false it (i + 1) x) := he8
    replace hs8 : Heap.SameBut e h7 h8 := hs8
    have up8 : ∀ b, b ≠ e → ∀ o, h5.get? b = some o → h8.get? b = some o := fun b n1 o q => hs8.extBut _ _ n1 (hs7.extBut _ _ n1 (hs6.extBut _ _ n1 q))
    have hit8 : h8.IsListIter it l (i + 1) := by
      obtain ⟨o, q, r⟩ := hit5
      exact ⟨o, up8 _ ne.symm _ q, r⟩
    refine wpAny_bind (wpAny_letGo ?_)
    exact wpAny_pure ⟨_, rfl, h (rawInt hp.objs.size) false x h8 (.inr ⟨_, rfl⟩) he8 hit8 (up8 _ eT _ (hs5.extBut _ _ eT gT)) fun b n1 n2 o q => up8 b n1 o (hs5.extBut _ _ n1 (up4 b n1 n2 o q))⟩
theorem en_end {c0 old : Value} {f : Bool} {i : Nat} {items : Array Value} (hh : A.handled = none) (he : s.heap.get? e = some (eCells c0 f it i old)) (hit : s.heap.IsListIter it l i) (hl : s.heap.IsList l items) (hx : items[i]? = none) {Q : Fin → Shared → Prop}
    (hE : ∀ h' x, Heap.ExtBut it s.heap h' → (∃ o, h'.get? x = some o ∧ o.cls = .type "StopIteration") → E (.ref x) { s with heap := h' }) :
    wpAny (model prog W) A (Builtin.«enumerate.__next__» ⟨[.ref e], []⟩) Q E s := by
  show wpAny _ _ (field (.ref e) 2 >>= _) _ _ _
  refine wpAny_bind (wpAny_field he rfl (x := .ref it) rfl ?_)
  exact wpAny_bind (wpAny_nextOf_list_end hh hit hl hx hE)
theorem en_next {Q : Option Value → Shared → Prop} {o : Obj} (he : s.heap.get? e = some o) (hT : o.cls = .type "enumerate")
    (h : wpAny (model prog W) A.in1 (Builtin.«enumerate.__next__» ⟨[.ref e], []⟩) (fun fin s' => ∃ v, fin = .done (.ret v) ∧ Q (some v) s') (fun x s' => ∃ a, x = .ref a ∧ (∃ o, s'.heap.get? a = some o ∧ o.cls = .type "StopIteration") ∧ Q none s') s) : wpAny (model prog W) A (pyNext (.ref e)) Q E s := by
  have ty : s.TypeIs (.ref e) "enumerate" := ⟨_, he, hT⟩
  unfold pyNext
  refine wpAny_bind (wpAny_attempt (wpAny_callSpecial?_slot (name := Str.ofString "__next__") ty F.slot_enumerate_next ?_))
  refine wpAny_call_entry F.slot_enumerate_next ty F.entry_enumerate_next ?_ (F.args_enumerate_next_1 _)
  refine wpAny_mono h (fun fin s1 ⟨v, ev, q⟩ => ⟨v, ev, wpAny_pure q⟩) fun x s1 ⟨a, ea, ⟨o, ho, hc⟩, q⟩ => ?_
  subst ea
  exact wpAny_bind (wpAny_isInstance (T := "StopIteration") (b := true) ⟨o, ho, hc⟩ isSubtype_stop (wpAny_pure q))
end

/-- the pairs that were made: their cells, rising, above lo -/
structure EnG (vs : List Value) (lo : Addr) (h : Heap) (as : List Addr) : Prop where
  rise : as.Pairwise (· < ·)
  above : ∀ a ∈ as, lo < a
  at_ : ∀ (j : Nat) (a : Addr), as[j]? = some a → ∃ (t : Tok) (x : Value), vs[j]? = some x ∧ h.get? a = some (tCells [.int (j : Int) t, x])
theorem EnG.there {vs : List Value} {lo : Addr} {h : Heap} {as : List Addr} (g : EnG vs lo h as) {a : Addr} (ha : a ∈ as) : a < h.objs.size := by
  obtain ⟨j, hj⟩ := List.mem_iff_getElem?.mp ha
  obtain ⟨_, _, _, q⟩ := g.at_ j a hj
  exact Heap.lt_size q
theorem EnG.keep {vs : List Value} {lo : Addr} {h h' : Heap} {as : List Addr} (g : EnG vs lo h as) (k : ∀ b, lo < b → ∀ o, h.get? b = some o → h'.get? b = some o) : EnG vs lo h' as :=
  ⟨g.rise, g.above, fun j a hj => by
    obtain ⟨t, x, q1, q2⟩ := g.at_ j a hj
    exact ⟨t, x, q1, k a (g.above a (List.mem_of_getElem? hj)) _ q2⟩⟩
section
variable {prog : Program} {W : World} {A : Around} {s : Shared} {R : Result → Shared → Prop} {vs : List Value}
abbrev lCells (acc : Array Value) (c : Nat) : Obj := { cls := .type "list", dict := none, data := .seq acc c, slots := #[] }
theorem en_loop {S e it l : Addr} (hh : A.handled = none) (hSe : e < S) (hie : it < e) (lS : l ≠ S) (le : l ≠ e) (li : l ≠ it) (hn : vs.length ≤ sizeLine) (res : Value) {h1 : Heap}
    (hR : ∀ h' tk acc c as, (∀ b, b ≠ S → b ≠ e → b ≠ it → ∀ o, h1.get? b = some o → h'.get? b = some o) → h'.get? S = some (lCells acc c) → as.length = vs.length → EnG vs S h' as → acc.toList = as.map Value.ref → R (.ok (.ret res)) { s with heap := h', toks := tk }) :
    ∀ (k i : Nat) (h : Heap) (tk c : Nat) (acc : Array Value) (as : List Addr) (c0 old : Value) (f : Bool), vs.length - i = k → i ≤ vs.length → ToldC c0 → h.get? e = some (eCells c0 f it i old) → h.IsListIter it l i → h.IsList l vs.toArray →
      (∀ b, b ≠ S → b ≠ e → b ≠ it → ∀ o, h1.get? b = some o → h.get? b = some o) → h.get? S = some (lCells acc c) → acc.toList = as.map Value.ref → as.length = i → EnG vs S h as →
      codeAny (model prog W) A (.builtin "list.extend.loop" ⟨[.ref S, .ref e, res], []⟩) R { s with heap := h, toks := tk } := by
  have neSe : S ≠ e := Nat.ne_of_gt hSe
  have hSi : S ≠ it := Nat.ne_of_gt (Nat.lt_trans hie hSe)
  have nie : it ≠ e := Nat.ne_of_lt hie
  intro k
  induction k with
  | zero =>
    intro i h tk c acc as c0 old f hk hi hc he hit hl hkeep hS hacc hal hG
    refine codeAny_builtin PySem.F.entry_extend_loop ?_
    rw [Around.under_plainId PySem.F.plain_extend_loop _]
    show wpAny _ A.in1 (pyNext (.ref e) >>= _) _ _ _
    refine wpAny_bind (en_next (s := { s with heap := h, toks := tk }) (A := A.in1) he rfl (en_end (A := A.in1.in1) hh he hit hl (by simp; omega) fun h' x hx hst => ⟨x, rfl, hst, ?_⟩))
    refine wpAny_pure (hR h' tk acc c as (fun b n1 n2 n3 o q => hx b o n3 (hkeep b n1 n2 n3 o q)) (hx S _ hSi hS) (by omega) (hG.keep fun b lt o q => hx b o (Nat.ne_of_gt (Nat.lt_trans (Nat.lt_trans hie hSe) lt)) q) hacc)
  | succ k ih =>
    intro i h tk c acc as c0 old f hk hi hc he hit hl hkeep hS hacc hal hG
    have hlt : i < vs.length := by omega
    have sz : acc.size = i := by rw [← Array.length_toList, hacc, List.length_map, hal]
    have hSl : S < h.objs.size := Heap.lt_size hS
    have hel : e < h.objs.size := Heap.lt_size he
    refine codeAny_builtin PySem.F.entry_extend_loop ?_
    rw [Around.under_plainId PySem.F.plain_extend_loop _]
    show wpAny _ A.in1 (pyNext (.ref e) >>= _) _ _ _
    refine wpAny_bind (en_next (s := { s with heap := h, toks := tk }) (A := A.in1) he rfl (wpAny_mono (en_item (s := { s with heap := h, toks := tk }) (A := A.in1.in1) (x := vs[i]) hc he hit hl (by simp [hlt]) (Ne.symm nie) (Q := fun v s' => v = .ref h.objs.size ∧ ∃ c1 f1 old1 h', s' = { s with heap := h', toks := tk + 1 } ∧ ToldC c1 ∧ h'.get? e = some (eCells c1 f1 it (i + 1) old1) ∧ h'.IsListIter it l (i + 1) ∧ h'.get? h.objs.size = some (tCells [.int (i : Int) tk, vs[i]]) ∧ ∀ b, b ≠ e → b ≠ it → ∀ o, h.get? b = some o → h'.get? b = some o) fun c1 f1 old1 h' q1 q2 q3 q4 q5 => ⟨rfl, c1, f1, old1, h', rfl, q1, q2, q3, q4, q5⟩) (fun fin s' ⟨v, ev, q⟩ => ⟨v, ev, ?_⟩) fun x s' q => q))
    obtain ⟨rfl, c1, f1, old1, h', rfl, hc1, he', hit', ht, hkp⟩ := q
    have hS' := hkp S neSe hSi _ hS
    have up : ∀ b, b ≠ S → ∀ o, h'.get? b = some o → (h'.update S (Obj.mapSeq (·.push (Value.ref h.objs.size)))).get? b = some o := fun b hb o q => (Heap.get?_update_other _ _ (Ne.symm hb)).trans q
    show wpAny _ A.in1 (updateSeq S (·.push (Value.ref h.objs.size)) >>= _) _ _ _
    refine wpAny_bind ?_
    refine wpAny_updateSeq hS' rfl (wpAny_pure ⟨plainId_quiet PySem.F.plain_extend_loop _, ih (i + 1) _ (tk + 1) _ (acc.push (Value.ref h.objs.size)) (as ++ [h.objs.size]) c1 old1 f1 (by omega) hlt hc1 (up e (Ne.symm neSe) _ he') ?_ ?_ (fun b n1 n2 n3 o q => up b n1 o (hkp b n2 n3 o (hkeep b n1 n2 n3 o q)))
      (Heap.get?_update_self _ hS' rfl) (by rw [Array.toList_push, hacc, List.map_append]; rfl) (by rw [List.length_append, hal]; rfl) ⟨?_, ?_, ?_⟩⟩) (by rw [sz]; omega) (by show (acc.push (Value.ref h.objs.size)).size ≤ sizeLine + 1; rw [Array.size_push, sz]; omega)
    · obtain ⟨o, q, r⟩ := hit'
      exact ⟨o, up it hSi.symm o q, r⟩
    · obtain ⟨o, q, r⟩ := hl
      exact ⟨o, up l lS o (hkp l le li o q), r⟩
    · refine List.pairwise_append.mpr ⟨hG.rise, List.pairwise_singleton _ _, fun a ha b hb => ?_⟩
      rw [List.mem_singleton.mp hb]
      exact hG.there ha
    · intro a ha
      rcases List.mem_append.mp ha with ha | ha
      · exact hG.above a ha
      · rw [List.mem_singleton.mp ha]
        exact hSl
    · intro j b hj
      by_cases h1 : j < as.length
      · rw [List.getElem?_append_left h1] at hj
        obtain ⟨t, x, q1, q2⟩ := hG.at_ j b hj
        have lb := hG.above b (List.mem_of_getElem? hj)
        exact ⟨t, x, q1, up b (Nat.ne_of_gt lb) _ (hkp b (Nat.ne_of_gt (Nat.lt_trans hSe lb)) (Nat.ne_of_gt (Nat.lt_trans (Nat.lt_trans hie hSe) lb)) _ q2)⟩
      · by_cases h2 : j = as.length
        · subst h2
          have hb : h.objs.size = b := by simpa using hj
          subst hb
          rw [hal]
          exact ⟨tk, vs[i], List.getElem?_eq_getElem hlt, up _ (Nat.ne_of_gt hSl) _ ht⟩
        · rw [List.getElem?_eq_none (by rw [List.length_append, List.length_singleton]; omega)] at hj
          cases hj
theorem en_nolen : typeLookup (.type "enumerate") "__len__" = pure none := am_miss_of_fast (by decide +kernel)
theorem en_nohint : typeLookup (.type "enumerate") "__length_hint__" = pure none := am_miss_of_fast (by decide +kernel)
theorem en_hint {E : Value → Shared → Prop} {e : Addr} (ty : s.TypeIs (.ref e) "enumerate") {Q : Bool → Shared → Prop} (h : Q true s) : wpAny (model prog W) A (Builtin.List.listLengthHint (.ref e)) Q E s := by
  unfold Builtin.List.listLengthHint
  refine wpAny_bind (wpAny_specialOf ty en_nolen ?_)
  refine wpAny_ite_split (fun q => absurd q (by decide +kernel)) (fun _ => ?_)
  refine wpAny_ite_split (fun q => absurd q (by decide)) (fun _ => ?_)
  exact wpAny_bind (wpAny_specialOf ty en_nohint (wpAny_pure h))
theorem selfIterE {E : Value → Shared → Prop} {e it : Addr} {c0 old : Value} {f : Bool} {i : Nat} {Q : Value → Shared → Prop} (he : s.heap.get? e = some (eCells c0 f it i old)) (h : Q (.ref e) s) : wpAny (model prog W) A (pyIter (.ref e)) Q E s := by
  have ty : s.TypeIs (.ref e) "enumerate" := ⟨_, he, rfl⟩
  exact wpAny_pyIter_slot ty F.slot_enumerate_iter (wpAny_call_entry F.slot_enumerate_iter ty F.entry_enumerate_iter (wpAny_pure ⟨_, rfl, _, _, ty, F.slot_enumerate_next.lookup, h⟩) (F.args_enumerate_iter_1 _))
theorem en_extend {S e it l : Addr} {c0 old : Value} {f : Bool} (hh : A.handled = none) (hSe : S ≠ e) (he : s.heap.get? e = some (eCells c0 f it 0 old)) (hc : ToldC c0) (hit : s.heap.IsListIter it l 0) (hl : s.heap.IsList l vs.toArray) (hS : ∃ c, s.heap.get? S = some (lCells #[] c)) (res : Value)
    (loop : ∀ h c tk, (∀ b, b ≠ S → ∀ o, s.heap.get? b = some o → h.get? b = some o) → h.get? S = some (lCells #[] c) → codeAny (model prog W) A (.builtin "list.extend.loop" ⟨[.ref S, .ref e, res], []⟩) R { s with heap := h, toks := tk }) :
    wpAny (model prog W) A.in1 (Builtin.List.listExtendWith (.ref S) (.ref e) res)
      (fun fin s' => match fin with | .done f => R (.ok f) s' | .again c' => c'.quiet = true ∧ codeAny (model prog W) A c' R s') (fun x s' => R (.error x) s') s := by
  obtain ⟨c, hS⟩ := hS
  unfold Builtin.List.listExtendWith
  refine wpAny_bind (wpAny_typeOf (T := "enumerate") ⟨_, he, rfl⟩ ?_)
  have h1 : Builtin.List.listSameRef (.ref S) (.ref e) = false := by simp [Builtin.List.listSameRef, hSe]
  have h2 : (Value.type "enumerate" == Value.type "list") = false := by decide
  have h3 : (Value.type "enumerate" == Value.type "tuple") = false := by decide
  simp only [h1, h2, h3, Bool.or_false, Bool.false_eq_true, if_false]
  refine wpAny_bind (selfIterE he ?_)
  refine wpAny_bind (wpAny_holding (en_hint ⟨_, he, rfl⟩ ?_))
  refine wpAny_ite_split (fun _ => ?_) (fun _ => wpAny_pure ⟨plainId_quiet PySem.F.plain_extend_loop _, loop _ c _ (fun b _ o q => q) hS⟩)
  refine wpAny_bind (wpAny_rule ?_)
  refine wpAny_bind ?_
  show wpAny _ _ (updateSeq S (·.push .none) >>= fun _ => updateSeq S (·.pop)) _ _ _
  refine wpAny_bind (wpAny_updateSeq hS rfl ?_)
  have hS2 := Heap.get?_update_self (Obj.mapSeq (·.push Value.none)) hS rfl
  refine wpAny_updateSeq (hz := by seq_fits) hS2 rfl ?_
  have hS3 := Heap.get?_update_self (Obj.mapSeq (·.pop)) hS2 rfl
  refine wpAny_pure ⟨plainId_quiet PySem.F.plain_extend_loop _, loop _ _ _ (fun b hb o q => ?_) hS3⟩
  exact (Heap.get?_update_other _ _ (Ne.symm hb)).trans ((Heap.get?_update_other _ _ (Ne.symm hb)).trans q)
/-- list(e) of an enumerate of a list that has not begun -/
theorem en_call {E : Value → Shared → Prop} {e it l : Addr} {c0 old : Value} {f : Bool} (hh : A.handled = none) (hie : it < e) (le : l ≠ e) (li : l ≠ it) (he : s.heap.get? e = some (eCells c0 f it 0 old)) (hc : ToldC c0) (hit : s.heap.IsListIter it l 0) (hl : s.heap.IsList l vs.toArray) (hn : vs.length ≤ sizeLine) {Q : Value → Shared → Prop}
    (hQ : ∀ h' tk acc c as, (∀ b, b ≠ e → b ≠ it → ∀ o, s.heap.get? b = some o → h'.get? b = some o) → h'.get? s.heap.objs.size = some (lCells acc c) → as.length = vs.length → EnG vs s.heap.objs.size h' as → acc.toList = as.map Value.ref → Q (.ref s.heap.objs.size) { s with heap := h', toks := tk }) :
    wpAny (model prog W) A (call (.type "list") [.ref e]) Q E s := by
  have lte : e < s.heap.objs.size := Heap.lt_size he
  have lti : it < s.heap.objs.size := by obtain ⟨_, q, _⟩ := hit; exact Heap.lt_size q
  have ltl : l < s.heap.objs.size := by obtain ⟨_, q, _⟩ := hl; exact Heap.lt_size q
  refine callType_codes (Q₁ := fun obj s₁ => obj = .ref s.heap.objs.size ∧ s₁ = { s with heap := s.heap.push { cls := .type "list", data := .seq #[] } }) PySem.F.called_list (PySem.F.typeCall_list_1 _) PySem.F.entry_list_init
    (code_list_new _ ⟨rfl, rfl⟩) fun obj s₁ h₁ => ?_
  obtain ⟨rfl, rfl⟩ := h₁
  have hS : (s.heap.push { cls := .type "list", data := .seq #[] }).get? s.heap.objs.size = some (lCells #[] 0) := Heap.get?_push_size _ rfl
  refine ⟨⟨_, hS, rfl⟩, PySem.F.args_list_init_2 _ _, ?_⟩
  show wpAny _ _ (do let old ← Builtin.List.listItems (.ref s.heap.objs.size); Builtin.List.listUpdate (.ref s.heap.objs.size) (fun _ => #[]); letGo old.toList.reverse; Builtin.List.listExtendWith (.ref s.heap.objs.size) (.ref e) .none) _ _ _
  refine wpAny_bind ?_
  unfold Builtin.List.listItems
  refine wpAny_bind (wpAny_seqItems hS rfl (wpAny_pure ?_))
  show wpAny _ _ (updateSeq s.heap.objs.size (fun _ => #[]) >>= fun _ => letGo (#[] : Array Value).toList.reverse >>= fun _ => Builtin.List.listExtendWith (.ref s.heap.objs.size) (.ref e) .none) _ _ _
  refine wpAny_bind (wpAny_updateSeq hS rfl ?_)
  have hS2 := Heap.get?_update_self (Obj.mapSeq (fun _ => (#[] : Array Value))) hS rfl
  have up : ∀ b, b ≠ s.heap.objs.size → ∀ o, s.heap.get? b = some o → ((s.heap.push { cls := .type "list", data := .seq #[] }).update s.heap.objs.size (Obj.mapSeq (fun _ => (#[] : Array Value)))).get? b = some o :=
    fun b hb o q => (Heap.get?_update_other _ _ (Ne.symm hb)).trans (Heap.get?_push_of_some _ q)
  refine wpAny_bind (wpAny_letGo ?_)
  generalize (s.heap.push { cls := .type "list", data := .seq #[] }).update s.heap.objs.size (Obj.mapSeq (fun _ => (#[] : Array Value))) = h2 at *
  have ne : s.heap.objs.size ≠ e := Nat.ne_of_gt lte
  have nit : s.heap.objs.size ≠ it := Nat.ne_of_gt lti
  have nl : s.heap.objs.size ≠ l := Nat.ne_of_gt ltl
  have he2 := up e ne.symm _ he
  have hit2 : h2.IsListIter it l 0 := by
    obtain ⟨o, q, r⟩ := hit
    exact ⟨o, up it nit.symm o q, r⟩
  have hl2 : h2.IsList l vs.toArray := by
    obtain ⟨o, q, r⟩ := hl
    exact ⟨o, up l nl.symm o q, r⟩
  refine en_extend (s := { s with heap := h2 }) (A := A.in1) hh ne he2 hc hit2 hl2 ⟨_, hS2⟩ .none fun h c tk hk hSc => ?_
  have low : ∀ b, b ≠ s.heap.objs.size → b ≠ e → b ≠ it → ∀ o, s.heap.get? b = some o → h.get? b = some o := fun b n1 n2 n3 o q => hk b n1 o (up b n1 o q)
  refine en_loop (s := { s with heap := h2 }) (A := A.in1) (h1 := h) hh lte hie nl.symm le li hn .none (fun h' tk' acc c' as q1 q2 q3 q4 q5 => ?_) vs.length 0 h tk c #[] [] c0 old f (Nat.sub_zero _) (Nat.zero_le _) hc (hk e ne.symm _ he2) ?_ ?_ (fun b _ _ _ o q => q) hSc rfl rfl ⟨List.Pairwise.nil, (fun _ ha => nomatch ha), (fun j a hj => by simp at hj)⟩
  · refine ⟨rfl, hQ h' tk' acc c' as (fun b n1 n2 o q => ?_) q2 q3 q4 q5⟩
    have n0 : b ≠ s.heap.objs.size := Nat.ne_of_lt (Heap.lt_size q)
    exact q1 b n0 n1 n2 o (low b n0 n1 n2 o q)
  · obtain ⟨o, q, r⟩ := hit2
    exact ⟨o, hk it nit.symm o q, r⟩
  · obtain ⟨o, q, r⟩ := hl2
    exact ⟨o, hk l nl.symm o q, r⟩
end
end LW

namespace LW
open PySem PySem.Spec PyProof.Rows L2
/-- the frame's facts where new cells are laid at once -/
theorem invLaid {X : Cx} {pins : List (Addr × Obj)} {σ : L2.St} {H H' : Hp} {s : Shared} {h' : Heap} {t' : Nat} (I : Inv X pins σ H s) (k : ∀ b o, s.heap.get? b = some o → h'.get? b = some o) (off : ∀ b, b < s.heap.objs.size → H' b = H b)
    (new : ∀ b u, s.heap.objs.size ≤ b → H' b = some u → ObjOk X.prog X.w H' h' b u) : Inv X pins σ H' { s with heap := h', toks := t' } := by
  have kp : ∀ b u, H b = some u → H' b = some u := fun b u e => by
    by_cases lt : b < s.heap.objs.size
    · rw [off b lt]
      exact e
    · rw [I.hok.fresh (Nat.le_of_not_lt lt)] at e
      cases e
  refine I.call' (ch := []) rfl ⟨fun b o q _ _ _ => k b o q, fun b o q _ _ _ => ⟨o.slots, k b o q⟩, fun b o q n _ => (off b (Heap.lt_size q)).trans n, fun b o q _ => ⟨o, k b o q⟩, fun b xs q => kp b _ q, fun b o u q => kp b _ q, fun b ps q => ⟨#[], by rw [kp b _ q]; simp⟩⟩ (fun b u q => ?_) I.bare fun b z => by simp at z
  by_cases lt : b < s.heap.objs.size
  · rw [off b lt] at q
    exact (I.hok b u q).stay (fun d v _ y => k d v y) (fun d y => kp d _ y) fun d xs y => kp d _ y
  · exact new b u (Nat.le_of_not_lt lt) q
/-- the pairs laid at their cells -/
def layE : Hp → List Addr → List V → Nat → Hp
  | H, a :: r, x :: t, i => layE (upd H a (.tup [.int (i : Int), x])) r t (i + 1)
  | H, _, _, _ => H
theorem layE_off {b : Addr} : ∀ {as : List Addr} {xs : List V} {H : Hp} {i : Nat}, b ∉ as → layE H as xs i b = H b
  | [], _, _, _, _ => rfl
  | _ :: _, [], _, _, _ => rfl
  | a :: r, x :: t, H, i, h => by
    have n1 : b ≠ a := fun e => h (by rw [e]; exact List.mem_cons_self ..)
    rw [layE, layE_off fun z => h (List.mem_cons_of_mem _ z), upd_ne n1]
theorem layE_at : ∀ {as : List Addr} {xs : List V} {H : Hp} {i j : Nat} {a : Addr} {x : V}, as.Pairwise (· < ·) → as[j]? = some a → xs[j]? = some x → layE H as xs i a = some (.tup [.int ((i + j : Nat) : Int), x])
  | [], _, _, _, _, _, _, _, e, _ => by simp at e
  | _ :: _, [], _, _, _, _, _, _, _, e => by simp at e
  | a0 :: r, x0 :: t, H, i, 0, a, x, hp, e1, e2 => by
    have : a0 = a := by simpa using e1
    subst this
    have : x0 = x := by simpa using e2
    subst this
    have no : a0 ∉ r := fun z => Nat.lt_irrefl _ ((List.pairwise_cons.mp hp).1 _ z)
    rw [layE, layE_off no, upd_same]
    rfl
  | a0 :: r, x0 :: t, H, i, j + 1, a, x, hp, e1, e2 => by
    rw [layE, layE_at (List.pairwise_cons.mp hp).2 (by simpa using e1) (by simpa using e2), Nat.add_right_comm]
    rfl
def tListE (K : PySem.W.Frag) (te : TE) : TE := fun σ H Q => te σ H fun v H1 => ∃ (l : Addr) (xs : List V), v = .ref l ∧ SqL K H1 l xs ∧ xs.length ≤ 100000 ∧
  ∀ (H' : Hp) (p : Addr) (ts : List Addr), H1 p = none → Same H1 H' → H' p = some (.lst (ts.map V.ref)) → ts.length = xs.length → (∀ (j : Nat) t x, ts[j]? = some t → xs[j]? = some x → H' t = some (.tup [.int (j : Int), x])) → Q (.ref p) H'
theorem valsRefs2 : ∀ as : List Addr, Vals (as.map V.ref) (as.map Value.ref)
  | [] => .nil
  | _ :: as => .cons rfl (valsRefs2 as)
theorem pe_listEnum {X : Cx} {e : Expr} {te : TE} {p p2 pos pos2 : Pos} (hc : X.calm = true) (he : PE X e te) (hg : Gl X "list") (hm : X.mg "list" = none) (hg2 : Gl X "enumerate") (hm2 : X.mg "enumerate" = none)
    (hs : starEach [.Call (.Name "enumerate" p2) [e] [] pos2] X.env = (false, eval (.Call (.Name "enumerate" p2) [e] [] pos2) X.env) :: starEach [] X.env := by rfl) (hs2 : starEach [e] X.env = [(false, eval e X.env)] := by rfl) :
    PE X (.Call (.Name "list" p) [.Call (.Name "enumerate" p2) [e] [] pos2] [] pos) (tListE X.K te) := by
  refine ⟨fun pins s σ H Q I hq => ?_⟩
  have bl : bootBuiltins "list" = some (.type "list") := by decide +kernel
  refine wpAny_Call_Name_kw (ld_blt I hg hm bl ?_)
  refine PyProof.Rows.callWith_type1 ?_ hs rfl
  rw [hs]
  show wpAny _ _ (spliced ((false, eval (.Call (.Name "enumerate" p2) [e] [] pos2) X.env) :: backTo pos (starEach [] X.env))) _ _ s
  refine Calls.spliced_cons ?_
  refine wpAny_Call_Name_kw (ld_blt I hg2 hm2 boot_enumerate ?_)
  refine PyProof.Rows.callWith_type1 ?_ hs2 rfl
  rw [hs2]
  show wpAny _ _ (spliced ((false, eval e X.env) :: backTo pos2 [])) _ _ s
  refine Calls.spliced_cons (thn (he.run pins s σ H _ I hq) fun u s1 hyp => Calls.spliced_nil ?_)
  obtain ⟨v, H1, I1, r1, l, xs, rfl, hl, lx, q⟩ := hyp
  obtain rfl : u = Value.ref l := r1
  have sz : (100000 : Nat) ≤ sizeLine := by decide
  obtain ⟨us, rv, d1, la⟩ := sd_data (b := false) I1 hl
  have lus := rv.length
  have fr : ∀ b, s1.heap.objs.size ≤ b → H1 b = none := fun b hb => I1.hok.fresh hb
  refine enum_starts (sd_begins false l us.toArray) (fun _ _ z => by cases z) d1 fun h1 he hi hk => Calls.spliced_nil ?_
  have sz1 : s1.heap.objs.size + 1 < h1.objs.size := Heap.lt_size he
  have hl1 : h1.IsList l us.toArray := by
    obtain ⟨o, q1, q2⟩ := d1
    exact ⟨o, hk _ _ q1, q2⟩
  have n1 : l ≠ s1.heap.objs.size + 1 := Nat.ne_of_lt (Nat.lt_succ_of_lt la)
  have n2 : l ≠ s1.heap.objs.size := Nat.ne_of_lt la
  refine en_call (s := { s1 with heap := h1 }) (vs := us) (c0 := .none) (old := .none) (f := false) (I1.ok.hd hc) (Nat.lt_succ_self _) n1 n2 he (.inl rfl) ⟨_, hi, rfl, rfl⟩ hl1 (by omega) fun h2 tk acc c as hk2 hS hal hG hacc => ?_
  have low : ∀ b o, s1.heap.get? b = some o → h2.get? b = some o := fun b o e => hk2 b (Nat.ne_of_lt (Nat.lt_succ_of_lt (Heap.lt_size e))) (Nat.ne_of_lt (Heap.lt_size e)) o (hk b o e)
  have asl : ∀ a ∈ as, h1.objs.size < a := hG.above
  have nS : h1.objs.size ∉ as := fun z => Nat.lt_irrefl _ (asl _ z)
  have aS : layE (upd H1 h1.objs.size (.lst (as.map V.ref))) as xs 0 h1.objs.size = some (.lst (as.map V.ref)) := by rw [layE_off nS, upd_same]
  have at_ : ∀ (j : Nat) t x, as[j]? = some t → xs[j]? = some x → layE (upd H1 h1.objs.size (.lst (as.map V.ref))) as xs 0 t = some (.tup [.int (j : Int), x]) := fun j t x e1 e2 => by
    rw [layE_at hG.rise e1 e2, Nat.zero_add]
  have off : ∀ b, b ∉ as → b ≠ h1.objs.size → layE (upd H1 h1.objs.size (.lst (as.map V.ref))) as xs 0 b = H1 b := fun b m1 m2 => by rw [layE_off m1, upd_ne m2]
  have sub : ∀ b, b < s1.heap.objs.size → b ∉ as ∧ b ≠ h1.objs.size := fun b lt => by
    have l2 : b < h1.objs.size := Nat.lt_trans lt (Nat.lt_of_succ_lt sz1)
    exact ⟨fun z => Nat.lt_irrefl _ (Nat.lt_trans l2 (asl _ z)), Nat.ne_of_lt l2⟩
  have I2 : Inv X pins σ (layE (upd H1 h1.objs.size (.lst (as.map V.ref))) as xs 0) { s1 with heap := h2, toks := tk } := invLaid I1 low (fun b lt => off b (sub b lt).1 (sub b lt).2) fun b u hb e => by
    by_cases m1 : b ∈ as
    · obtain ⟨j, ej⟩ := List.mem_iff_getElem?.mp m1
      have lj := (List.getElem?_eq_some_iff.mp ej).1
      have jx : xs[j]? = some xs[j] := List.getElem?_eq_getElem (by omega)
      rw [at_ j b _ ej jx] at e
      cases e
      obtain ⟨t, x, q1, q2⟩ := hG.at_ j b ej
      obtain ⟨u2, hu, ru⟩ := rv.get jx
      have : x = u2 := Option.some.inj (q1.symm.trans hu)
      subst this
      exact ⟨by show 2 ≤ sizeLine; decide, [.int (j : Int) t, x], .cons ⟨_, rfl⟩ (.cons ru .nil), ⟨_, q2, rfl, _, rfl⟩⟩
    · by_cases m2 : b = h1.objs.size
      · subst m2
        rw [aS] at e
        cases e
        refine ⟨by rw [List.length_map]; omega, acc.toList, c, by rw [hacc]; exact valsRefs2 as, ?_⟩
        rw [Array.toArray_toList]
        exact hS
      · rw [off b m1 m2, fr b hb] at e
        cases e
  refine ⟨.ref h1.objs.size, _, I2, rfl, q _ h1.objs.size as (fr _ (Nat.le_of_succ_le (Nat.le_of_lt sz1))) (fun b o e => ?_) aS (by omega) at_⟩
  have lt : b < s1.heap.objs.size := Nat.lt_of_not_le fun z => by
    rw [fr b z] at e
    cases e
  rw [off b (sub b lt).1 (sub b lt).2]
  exact e
theorem kListE {X : Cx} {K : PySem.W.Frag} {e : Expr} {te : TE} {p p2 pos pos2 : Pos} (h : X.K = K) (hc : X.calm = true) (he : PE X e te) (hg : Gl X "list") (hm : X.mg "list" = none) (hg2 : Gl X "enumerate") (hm2 : X.mg "enumerate" = none)
    (hs : starEach [.Call (.Name "enumerate" p2) [e] [] pos2] X.env = (false, eval (.Call (.Name "enumerate" p2) [e] [] pos2) X.env) :: starEach [] X.env := by rfl) (hs2 : starEach [e] X.env = [(false, eval e X.env)] := by rfl) :
    PE X (.Call (.Name "list" p) [.Call (.Name "enumerate" p2) [e] [] pos2] [] pos) (tListE K te) := by
  subst h
  exact pe_listEnum hc he hg hm hg2 hm2 hs hs2
end LW

namespace LW
open PySem PySem.Spec PyProof.Rows L2
def topS (i : Nat) : Stmt := PySem.Challenge.pw_loopwords_k07_whole_trees.main.body.getD i (.Pass ⟨0, 0, 0, 0⟩)

local macro_rules | `(tactic| walk_at "go1") => `(tactic| first
  | refine ⟨_, rfl, ?_⟩
  | refine ⟨_, _, rfl, rfl, ?_⟩
  | refine ⟨show (0 : Int) < _ from by omega, ?_⟩
  | refine ⟨show CMul _ _ from by first | exact .inl ⟨by omega, by omega⟩ | exact .inr ⟨by omega, by omega⟩, ?_⟩
  | refine ⟨show CDiv _ _ from ⟨by omega, by omega⟩, ?_⟩)
local macro_rules | `(tactic| walk_at "go") => `(tactic| repeat walk_at "go1")

section
variable {P : Program} {w : World} {K : PySem.W.Frag} {mg : Str → Option Value} {base : Heap}

abbrev s__law_at : Stmt := topS 10
theorem sc__law_at : FnScope ["_law_script", "_law_k", "_law_cell"] ["_law_script", "_law_k"] (defScope s__law_at) := ⟨rfl, rfl, rfl, by decide +kernel, rfl, by decide +kernel, by decide +kernel⟩

def spAt (K : PySem.W.Frag) : Sp := fun vs H Q _ => ∃ (a : Addr) (ns : List Int) (k : Int), vs = [.ref a, .int k] ∧ SqL K H a (ns.map V.int) ∧ ns.length ≤ 63 ∧ 0 ≤ k ∧ k ≤ 1000 ∧ ∀ i : Int, 0 ≤ i → i < 1000003 → Q (.int i) H
theorem ok__law_at {f : Addr} {fd : FuncData} {k : Nat} (F : Fun K "_law_at" "_law_at" s__law_at f fd) (B : Bl mg) : FnOk P w K mg base CX0 (k + 1) f fd ["_law_script", "_law_k"] (spAt K) := by
  refine F.ok sc__law_at (fun vs H Q E h => ?_) (fun cdv A outer s H vs Q E hr h => ?_)
  · obtain ⟨a, ns, k, rfl, _⟩ := h
    rfl
  obtain ⟨a, ns, k, rfl, hS, h63, k0, k1, q⟩ := h
  refine ⟨_, (pss_cons (ps_set (i := 2) sc__law_at.nd rfl (.inl rfl) pe_int)
    (pss_cons (ps_if (pt_cmpR op_gt (pe_callB (kLen (K := K) rfl) (by rfl) B.len PySem.boot_len (pa_cons (pv 0) pa_nil)) pe_int (nomark _))
      (pss_one (ps_set (i := 2) sc__law_at.nd rfl (.inl rfl) (pe_ix (kIxL (K := K) rfl) (pv 0) (pe_op op_mod (pv 1) (pe_callB (kLen (K := K) rfl) (by rfl) B.len PySem.boot_len (pa_cons (pv 0) pa_nil))) (fun _ _ => rfl))))
      pss_nil)
    (pss_one (ps_ret (pe_op op_mod (pe_op op_mul (pe_op op_add (pv 2) (pe_op op_mul pe_int (pv 1))) pe_int) pe_int))))), ?_⟩
  walk_at "go"
  refine ⟨_, _, rfl, .inl hS, ?_⟩
  walk_at "go"
  have lm : (ns.map V.int).length = ns.length := List.length_map _
  refine ite2 (fun c => ?_) (fun c => ?_)
  · have c' : (0 : Int) < ((ns.map V.int).length : Int) := of_decide_eq_true c
    walk_at "go"
    refine ⟨_, _, rfl, .inl hS, ?_⟩
    walk_at "go"
    have hm0 : 0 ≤ k % ((ns.map V.int).length : Int) := Int.emod_nonneg _ (by omega)
    have hm1 : k % ((ns.map V.int).length : Int) < ((ns.map V.int).length : Int) := Int.emod_lt_of_pos _ c'
    obtain ⟨j, hj⟩ : ∃ j : Nat, k % ((ns.map V.int).length : Int) = (j : Int) := ⟨(k % ((ns.map V.int).length : Int)).toNat, by omega⟩
    have hjl : j < ns.length := by omega
    refine ⟨_, _, _, .int ns[j], rfl, rfl, hS, ?_, ?_⟩
    · rw [hj]
      exact atI_nat (by rw [List.getElem?_map, List.getElem?_eq_getElem hjl]; rfl)
    walk_at "go"
    exact q _ (Int.emod_nonneg _ (by decide)) (Int.emod_lt_of_pos _ (by decide))
  · walk_at "go"
    exact q _ (Int.emod_nonneg _ (by decide)) (Int.emod_lt_of_pos _ (by decide))

theorem kMin {X : Cx} {K : PySem.W.Frag} (h : X.K = K) (hc : X.calm = true) : CallR X (.builtin "min") (rMin K) := by subst h; exact cr_min hc
abbrev s__law_least : Stmt := topS 20
theorem sc__law_least : FnScope ["_law_one", "_law_stretch_here", "_law_found", "_law_k", "_law_held"] ["_law_one", "_law_stretch_here"] (defScope s__law_least) := ⟨rfl, rfl, rfl, by decide +kernel, rfl, by decide +kernel, by decide +kernel⟩

def spLeast (K : PySem.W.Frag) : Sp := fun vs H Q _ => ∃ (v : V) (a : Addr) (s : Sm) (st : List Iv), vs = [v, .ref a] ∧ SumIn K H v s ∧ StrIn K H a st ∧ s.1.length = st.length ∧ st.length ≤ 1000 ∧ (∀ n ∈ s.1, -9 ≤ n ∧ n ≤ 9) ∧ ∀ H', Same H H' → Q (.int (least s st)) H'
theorem ok__law_least {f : Addr} {fd : FuncData} {k : Nat} (F : Fun K "_law_least" "_law_least" s__law_least f fd) (B : Bl mg) (nmin : mg "min" = none) : FnOk P w K mg base CX0 (k + 1) f fd ["_law_one", "_law_stretch_here"] (spLeast K) := by
  refine F.ok sc__law_least (fun vs H Q E h => ?_) (fun cdv A outer s H vs Q E hr h => ?_)
  · obtain ⟨v, a, s, st, rfl, _⟩ := h
    rfl
  obtain ⟨v, a, ⟨ns, l⟩, st, rfl, ⟨b, t, rfl, h1, h2⟩, ⟨ws, hS, hW⟩, hl, hz, hn, q⟩ := h
  dsimp only at h1 h2 hl hn q
  refine ⟨_, (pss_cons (ps_set (i := 2) sc__law_least.nd rfl (.inl rfl) (pe_ix (kIxT (K := K) rfl) (pv 0) pe_int (fun _ _ => rfl)))
    (pss_cons (ps_for PassesOwn.never rfl (pi_range1 (by rfl) B.range (pa_cons (pe_callB (kLen (K := K) rfl) (by rfl) B.len PySem.boot_len (pa_cons (pv 1) pa_nil)) pa_nil)) (pg_name (i := 3) sc__law_least.nd rfl (.inr rfl))
      (pss_one (ps_set (i := 2) sc__law_least.nd rfl (.inl rfl) (pe_op op_add (pv 2) (pe_callB (kMin (K := K) rfl rfl) (by rfl) nmin (by decide +kernel) (pa_cons (pe_lc (own := [("_law_held", 4)]) rfl sc__law_least.nd (kTup_ (K := K) rfl (pe_ix (kIxL (K := K) rfl) (pv 1) (pv 3) (fun _ _ => rfl))) (blkOk_by (own := [("_law_held", 4)]) (N := ["_law_one", "_law_stretch_here", "_law_found", "_law_k", "_law_held"]) (sc := defScope s__law_least) (by decide +kernel)) (fun _ _ _ _ _ => (pgN (i := 4) sc__law_least.nd rfl (.inl rfl) (.inr rfl))) (fun _ _ _ _ _ => pts_nil) (fun _ _ _ _ _ => (pe_op op_mul (pe_ix (kIxT (K := K) rfl) (pe_ix (kIxT (K := K) rfl) (pv 0) pe_int (fun _ _ => rfl)) (pv 3) (fun _ _ => rfl)) (pv 4)))) pa_nil))))))
    (pss_one (ps_ret (pv 2))))), ?_⟩
  have lw := hW.len
  refine ⟨_, rfl, _, _, _, _, rfl, rfl, h1, atI_nat (j := 1) rfl, ?_⟩
  refine ⟨_, rfl, _, _, rfl, .inl hS, _, rfl, by omega, by omega, ?_⟩
  refine for_range (lo := 0) (n := ws.length) (fun i σ H' => Same H H' ∧ ∃ (y3 y4 : Option V), σ = [some (.ref b), some (.ref a), some (.int (l + low (ns.take i) (st.take i))), y3, y4]) ⟨Same.refl _, none, none, by simp [low]; rfl⟩ (fun i σ H' hi w => ?_) (fun σ H' w => ?_)
  · obtain ⟨sm, y3, y4, rfl⟩ := w
    have ei : (0 : Int) + (i : Int) = ((i : Nat) : Int) := by omega
    have i1 : i < ns.length := by omega
    have i2 : i < st.length := by omega
    obtain ⟨w0, ew, ⟨tw, rfl, hw⟩⟩ := A2.atR hW (List.getElem?_eq_getElem i2)
    have hn1 := hn _ (List.getElem_mem i1)
    have aw : atI ws (0 + (i : Int)) = some (.ref tw) := by rw [ei]; exact atI_nat ew
    have an : atI (ns.map V.int) (0 + (i : Int)) = some (.int ns[i]) := by rw [ei]; exact atI_nat (intAt i1)
    refine ⟨_, rfl, _, rfl, _, rfl, _, _, _, _, rfl, rfl, Same.seq sm hS, aw, _, rfl, ⟨_, tupS sm hw⟩, fun D nD => ?_⟩
    refine lc_it (walk_tup (xs := [.int st[i].1, .int st[i].2])) (Made H' D (RI fun j => ns[i] * ([st[i].1, st[i].2][j]?.getD 0))) (made0 nD) (fun j H1 _ p => tupS (Same.trans sm p.same) hw) (fun j x H1 H2 hj p y => ?_) (fun H1 p => ?_)
    · obtain ⟨rfl, ex⟩ := y
      have hj2 : j < 2 := hj
      have ex2 : x = .int ([st[i].1, st[i].2][j]?.getD 0) := by
        match j, hj2 with
        | 0, _ => exact (Option.some.inj ex).symm
        | 1, _ => exact (Option.some.inj ex).symm
      subst ex2
      refine ⟨rfl, ?_⟩
      refine lcYes ?_
      have s1 := Same.trans sm p.same
      refine ⟨_, rfl, _, _, _, _, rfl, rfl, tupS s1 h1, atI_nat (j := 0) rfl, _, rfl, _, _, _, _, rfl, rfl, tupS s1 h2, an, _, rfl, _, _, rfl, rfl, .inl ⟨by omega, by omega⟩, ?_⟩
      exact p.push nD (stRI _) (by omega) (Same.refl _) rfl
    · obtain ⟨g, s2⟩ := madeRI p
      have eg : (List.range 2).map (fun j => ns[i] * ([st[i].1, st[i].2][j]?.getD 0)) = [ns[i] * st[i].1, ns[i] * st[i].2] := rfl
      rw [show ([V.int st[i].1, V.int st[i].2] : List V).length = 2 from rfl, eg] at g
      refine ⟨_, _, rfl, .of g, by simp, fun m hm hle => ?_⟩
      rw [minTwo hm hle]
      refine ⟨_, _, rfl, rfl, Same.trans sm s2, some (.int (0 + (i : Int))), y4, ?_⟩
      rw [low_take (List.getElem?_eq_getElem i1) (List.getElem?_eq_getElem i2), ← Int.add_assoc]
      rfl
  · obtain ⟨sm, y3, y4, rfl⟩ := w
    refine ⟨_, rfl, ?_⟩
    rw [lw, List.take_length, ← hl, List.take_length]
    exact q _ sm

end

end LW

namespace LW
open PySem PySem.Spec PyProof.Rows L2
local macro_rules | `(tactic| walk_at "go1") => `(tactic| first
  | refine ⟨_, rfl, ?_⟩
  | refine ⟨_, _, rfl, rfl, ?_⟩
  | refine ⟨show (0 : Int) < _ from by omega, ?_⟩
  | refine ⟨show CMul _ _ from by first | exact .inl ⟨by omega, by omega⟩ | exact .inr ⟨by omega, by omega⟩, ?_⟩
  | refine ⟨show CDiv _ _ from ⟨by omega, by omega⟩, ?_⟩)
local macro_rules | `(tactic| walk_at "go") => `(tactic| repeat walk_at "go1")

section
variable {P : Program} {w : World} {K : PySem.W.Frag} {mg : Str → Option Value} {base : Heap}

theorem atMem {xs : List Int} {i : Int} (h0 : 0 ≤ i) (h1 : i < xs.length) : ∃ v, atI (xs.map V.int) i = some (.int v) ∧ v ∈ xs := by
  obtain ⟨j, rfl⟩ : ∃ j : Nat, i = (j : Int) := ⟨i.toNat, by omega⟩
  have hj : j < xs.length := by omega
  exact ⟨xs[j], atI_nat (intAt hj), List.getElem_mem _⟩
/-- a stretch as it is drawn -/
def StrW (st : List Iv) : Prop := 1 ≤ st.length ∧ st.length ≤ 3 ∧ (∀ p ∈ st, -3 ≤ p.1 ∧ p.1 ≤ p.2 ∧ p.1 ≤ 2 ∧ p.2 ≤ p.1 + 9) ∧ (2 ≤ st.length → ∀ p ∈ st, p.2 ≤ p.1 + 5) ∧ (3 ≤ st.length → ∀ p ∈ st, p.2 ≤ p.1 + 2)
abbrev s__law_stretch : Stmt := topS 22
theorem sc__law_stretch : FnScope ["_law_script", "_law_many", "_law_found", "_law_k", "_law_cell", "_law_low"] ["_law_script"] (defScope s__law_stretch) := ⟨rfl, rfl, rfl, by decide +kernel, rfl, by decide +kernel, by decide +kernel⟩

def spStretch (K : PySem.W.Frag) : Sp := fun vs H Q _ => ∃ (a : Addr) (ns : List Int), vs = [.ref a] ∧ SqL K H a (ns.map V.int) ∧ ns.length ≤ 63 ∧ ∀ (p : Addr) (H' : Hp) (ws : List V) (st : List Iv), H p = none → Same H H' → H' p = some (.lst ws) → A2 (PrI K H') ws st → StrW st → Q (.ref p) H'
theorem ok__law_stretch {f : Addr} {fd : FuncData} {k : Nat} (F : Fun K "_law_stretch" "_law_stretch" s__law_stretch f fd) (B : Bl mg) (c__law_at : C8.Cal P w K mg base k "_law_at" (spAt K) []) : FnOk P w K mg base CX0 (k + 1) f fd ["_law_script"] (spStretch K) := by
  refine F.ok sc__law_stretch (fun vs H Q E h => ?_) (fun cdv A outer s H vs Q E hr h => ?_)
  · obtain ⟨a, ns, rfl, _⟩ := h
    rfl
  obtain ⟨a, ns, rfl, hS, h63, q⟩ := h
  refine ⟨_, (pss_cons (ps_set (i := 1) sc__law_stretch.nd rfl (.inl rfl) (pe_op op_add pe_int (pe_op op_mod (C8.pe_c c__law_at hr (Nat.le_refl _) (by rfl) (pa_cons (pv 0) (pa_cons pe_int pa_nil))) pe_int)))
    (pss_cons (ps_set (i := 2) sc__law_stretch.nd rfl (.inl rfl) (pe_lst pa_nil))
    (pss_cons (ps_for PassesOwn.never rfl (pi_range1 (by rfl) B.range (pa_cons (pv 1) pa_nil)) (pg_name (i := 3) sc__law_stretch.nd rfl (.inl rfl))
      (pss_cons (ps_set (i := 4) sc__law_stretch.nd rfl (.inl rfl) (C8.pe_c c__law_at hr (Nat.le_refl _) (by rfl) (pa_cons (pv 0) (pa_cons (pe_op op_add pe_int (pv 3)) pa_nil))))
      (pss_cons (ps_set (i := 5) sc__law_stretch.nd rfl (.inl rfl) (pe_op op_sub (pe_op op_mod (pv 4) pe_int) pe_int))
      (pss_one (ps_expr (pe_bm PySem.F.plainAttrs_list PySem.F.slot_list_append PySem.F.type_list_append mt_append (pv 2) (pa_cons (pe_tup (pa_cons (pv 5) (pa_cons (pe_op op_add (pv 5) (pe_op op_mod (pe_op op_fdiv (pv 4) pe_int) (pe_ix (kIxL (K := K) rfl) (pe_lst (pa_cons pe_int (pa_cons pe_int (pa_cons pe_int pa_nil)))) (pe_op op_sub (pv 1) pe_int) (fun _ _ => rfl)))) pa_nil))) pa_nil)))))))
    (pss_one (ps_ret (pv 2)))))), ?_⟩
  refine ⟨_, rfl, a, ns, 0, rfl, hS, h63, by omega, by omega, fun c c0 c1 => ?_⟩
  refine ⟨_, _, rfl, rfl, (show (0 : Int) < 3 by decide), _, _, rfl, rfl, ?_⟩
  obtain ⟨m, em⟩ : ∃ m : Nat, 1 + c % 3 = (m : Int) := ⟨(1 + c % 3).toNat, by omega⟩
  have m1 : 1 ≤ m ∧ m ≤ 3 := by omega
  refine ⟨by show 0 ≤ sizeLine; decide, fun L nL => ?_⟩
  refine ⟨_, rfl, _, rfl, by omega, by omega, ?_⟩
  have en : (1 + c % 3).toNat = m := by omega
  refine for_range (lo := 0) (n := (1 + c % 3).toNat) (fun i σ H' => Same H H' ∧ ∃ (ws : List V) (st : List Iv) (y3 y4 y5 : Option V), σ = [some (.ref a), some (.int (1 + c % 3)), some (.ref L), y3, y4, y5] ∧ H' L = some (.lst ws) ∧ A2 (PrI K H') ws st ∧ st.length = i ∧ (∀ p ∈ st, -3 ≤ p.1 ∧ p.1 ≤ p.2 ∧ p.1 ≤ 2 ∧ p.2 ≤ p.1 + 9) ∧ (2 ≤ m → ∀ p ∈ st, p.2 ≤ p.1 + 5) ∧ (3 ≤ m → ∀ p ∈ st, p.2 ≤ p.1 + 2))
    ⟨sameNew nL, [], [], none, none, none, rfl, upd_same, .nil, rfl, fun p hp => (by cases hp), fun _ p hp => (by cases hp), fun _ p hp => (by cases hp)⟩ (fun i σ H' hi w => ?_) (fun σ H' w => ?_)
  · obtain ⟨sm, ws, st, y3, y4, y5, rfl, hL, hW, hl, b1, b2, b3⟩ := w
    refine ⟨_, rfl, _, rfl, _, _, rfl, rfl, a, ns, _, rfl, Same.seq sm hS, h63, by omega, by omega, fun z z0 z1 => ?_⟩
    refine ⟨_, rfl, _, _, rfl, rfl, (show (0 : Int) < 6 by decide), _, _, rfl, rfl, ?_⟩
    refine ⟨_, rfl, .inl ⟨rfl, _, .of hL⟩, _, rfl, _, rfl, _, rfl, _, _, rfl, rfl, ⟨by decide, by decide⟩, by show 3 ≤ sizeLine; decide, fun U nU => ?_⟩
    obtain ⟨most, ez, mz⟩ : ∃ most : Int, atI (([10, 6, 3] : List Int).map V.int) (1 + c % 3 - 1) = some (.int most) ∧ (1 ≤ most ∧ most ≤ 10 ∧ (2 ≤ m → most ≤ 6) ∧ (3 ≤ m → most ≤ 3)) := by
      have e1 : 1 + c % 3 - 1 = ((m - 1 : Nat) : Int) := by omega
      rw [e1]
      rcases (show m = 1 ∨ m = 2 ∨ m = 3 by omega) with rfl | rfl | rfl
      · exact ⟨10, rfl, by omega⟩
      · exact ⟨6, rfl, by omega⟩
      · exact ⟨3, rfl, by omega⟩
    have r0 : 0 ≤ z / 6 % most := Int.emod_nonneg _ (by omega)
    have r1 : z / 6 % most < most := Int.emod_lt_of_pos _ (by omega)
    refine ⟨_, rfl, _, _, rfl, rfl, _, _, _, _, rfl, rfl, .of upd_same, ez, _, _, rfl, rfl, (by omega), _, _, rfl, rfl, by show 2 ≤ sizeLine; decide, fun T nT => ?_⟩
    have sUT := Same.trans (sameNew (o := .lst [.int 10, .int 6, .int 3]) nU) (sameNew (o := .tup [.int (z % 6 - 3), .int (z % 6 - 3 + z / 6 % most)]) nT)
    have hLT := sUT _ _ hL
    have lws := hW.len
    refine ⟨L, ws, _, rfl, rfl, hLT, (by have : (100000 : Nat) ≤ sizeLine := by decide
                                         omega), sameMut (Same.trans sm sUT) nL, ws ++ [.ref T], st ++ [(z % 6 - 3, z % 6 - 3 + z / 6 % most)], _, _, _, rfl, upd_same, ?_, by simp [hl], ?_, ?_, ?_⟩
    · exact (priTS (TS.trans (tsOf sUT) (tsLst hLT)) hW).app (.cons ⟨T, rfl, tsTup (tsLst hLT) (.of upd_same)⟩ .nil)
    · intro p hp
      rcases List.mem_append.mp hp with h | h
      · exact b1 p h
      · rw [List.mem_singleton.mp h]
        dsimp only
        omega
    · intro h2 p hp
      rcases List.mem_append.mp hp with h | h
      · exact b2 h2 p h
      · rw [List.mem_singleton.mp h]
        dsimp only
        omega
    · intro h3 p hp
      rcases List.mem_append.mp hp with h | h
      · exact b3 h3 p h
      · rw [List.mem_singleton.mp h]
        dsimp only
        omega
  · obtain ⟨sm, ws, st, y3, y4, y5, rfl, hL, hW, hl, b1, b2, b3⟩ := w
    have el : st.length = m := by omega
    exact ⟨_, rfl, q L H' ws st nL sm hL hW ⟨by omega, by omega, b1, fun h => b2 (by omega), fun h => b3 (by omega)⟩⟩

end

end LW

namespace LW
open PySem PySem.Spec PyProof.Rows L2
local macro_rules | `(tactic| walk_at "go1") => `(tactic| first
  | refine ⟨_, rfl, ?_⟩
  | refine ⟨_, _, rfl, rfl, ?_⟩
  | refine ⟨show (0 : Int) < _ from by omega, ?_⟩
  | refine ⟨show CMul _ _ from by first | exact .inl ⟨by omega, by omega⟩ | exact .inr ⟨by omega, by omega⟩, ?_⟩
  | refine ⟨show CDiv _ _ from ⟨by omega, by omega⟩, ?_⟩)
local macro_rules | `(tactic| walk_at "go") => `(tactic| repeat walk_at "go1")

section
variable {P : Program} {w : World} {K : PySem.W.Frag} {mg : Str → Option Value} {base : Heap}

def spValue (K : PySem.W.Frag) : Sp := fun vs H Q _ => ∃ (v : V) (f : Addr) (s : Sm) (xs : List Int), vs = [v, .ref f] ∧ SumIn K H v s ∧ SqL K H f (xs.map V.int) ∧ s.1.length = xs.length ∧ xs.length ≤ 1000 ∧
  (∀ n ∈ s.1, Wd 400000 n) ∧ (∀ x ∈ xs, Wd 400000 x) ∧ ∀ H', Same H H' → Q (.int (val s xs)) H'

abbrev s__law_value : Stmt := topS 12
theorem sc__law_value : FnScope ["_law_one", "_law_filling", "_law_found", "_law_k"] ["_law_one", "_law_filling"] (defScope s__law_value) := ⟨rfl, rfl, rfl, by decide +kernel, rfl, by decide +kernel, by decide +kernel⟩

theorem ok__law_value {f : Addr} {fd : FuncData} {k : Nat} (F : Fun K "_law_value" "_law_value" s__law_value f fd) (B : Bl mg) : FnOk P w K mg base CX0 (k + 1) f fd ["_law_one", "_law_filling"] (spValue K) := by
  refine F.ok sc__law_value (fun vs H Q E h => ?_) (fun cdv A outer s H vs Q E hr h => ?_)
  · obtain ⟨v, f, s, xs, rfl, _⟩ := h
    rfl
  obtain ⟨v, f, ⟨ns, m⟩, xs, rfl, ⟨a, t, rfl, h1, h2⟩, hF, hl, hz, w1, w2, q⟩ := h
  dsimp only at h1 h2 hl w1 w2 q
  refine ⟨_, (pss_cons (ps_set (i := 2) sc__law_value.nd rfl (.inl rfl) (pe_ix (kIxT (K := K) rfl) (pv 0) pe_int (fun _ _ => rfl)))
    (pss_cons (ps_for PassesOwn.never rfl (pi_range1 (by rfl) B.range (pa_cons (pe_callB (kLen (K := K) rfl) (by rfl) B.len PySem.boot_len (pa_cons (pv 1) pa_nil)) pa_nil)) (pg_name (i := 3) sc__law_value.nd rfl (.inl rfl))
      (pss_one (ps_set (i := 2) sc__law_value.nd rfl (.inl rfl) (pe_op op_add (pv 2) (pe_op op_mulW (pe_ix (kIxT (K := K) rfl) (pe_ix (kIxT (K := K) rfl) (pv 0) pe_int (fun _ _ => rfl)) (pv 3) (fun _ _ => rfl)) (pe_ix (kIxL (K := K) rfl) (pv 1) (pv 3) (fun _ _ => rfl)))))))
    (pss_one (ps_ret (pv 2))))), ?_⟩
  have lx : (xs.map V.int).length = xs.length := List.length_map _
  refine ⟨_, rfl, _, _, _, _, rfl, rfl, h1, atI_nat (j := 1) rfl, _, rfl, _, _, rfl, .inl hF, _, rfl, by omega, by omega, ?_⟩
  refine for_range (lo := 0) (n := ((xs.map V.int).length : Int).toNat) (fun i σ H' => H' = H ∧ ∃ y, σ = [some (.ref a), some (.ref f), some (.int (m + dot (ns.take i) (xs.take i))), y]) ⟨rfl, none, by simp [dot]; rfl⟩ (fun i σ H' hi p => ?_) (fun σ H' p => ?_)
  · obtain ⟨rfl, y, rfl⟩ := p
    have i1 : i < xs.length := by omega
    have i0 : i < ns.length := by omega
    refine ⟨_, rfl, _, rfl, _, _, _, _, rfl, rfl, h1, atI_nat (j := 0) rfl, _, rfl, _, _, _, _, rfl, rfl, h2, at_of (by omega) (intAt i0), _, rfl, _, rfl, _, _, _, _, rfl, rfl, hF, at_of (by omega) (intAt i1), ?_⟩
    refine ⟨_, _, rfl, rfl, Wd.mulOk (w1 _ (List.getElem_mem _)) (w2 _ (List.getElem_mem _)) (by decide) (by decide) (by decide), _, _, rfl, rfl, rfl, some (.int (0 + (i : Int))), ?_⟩
    rw [dot_take (List.getElem?_eq_getElem i0) (List.getElem?_eq_getElem i1), ← Int.add_assoc]
    rfl
  · obtain ⟨rfl, y, rfl⟩ := p
    refine ⟨_, rfl, ?_⟩
    have e : ((xs.map V.int).length : Int).toNat = xs.length := by omega
    rw [e, List.take_of_length_le (by omega), List.take_of_length_le (by omega)]
    exact q _ (Same.refl _)

theorem eqvNil7 (ws : List Int) : PyData.eqv (.list (dI ws)) (.list []) = decide (ws = []) := by
  cases ws with
  | nil => simp [dI, PyData.eqv, PyData.eqvAll]
  | cons w r => simp [dI, PyData.eqv, PyData.eqvAll]
theorem wdSmall {i : Int} (h : -1000 ≤ i ∧ i ≤ 1000) : Wd 400000 i := Wd.mono (n := 10) (by show i.natAbs < 2 ^ 10; omega) (by omega)
abbrev s__law_holds : Stmt := topS 24
theorem sc__law_holds : FnScope ["_law_some", "_law_filling", "_law_one"] ["_law_some", "_law_filling"] (defScope s__law_holds) := ⟨rfl, rfl, rfl, by decide +kernel, rfl, by decide +kernel, by decide +kernel⟩

def spHolds (K : PySem.W.Frag) : Sp := fun vs H Q _ => ∃ (a fa : Addr) (us : List V) (ss : List Sm) (fs : List Int), vs = [.ref a, .ref fa] ∧ SqL K H a us ∧ A2 (SumIn K H) us ss ∧ SqL K H fa (fs.map V.int) ∧ (∀ s ∈ ss, s.1.length = fs.length ∧ ∀ n ∈ s.1, -9 ≤ n ∧ n ≤ 9) ∧ (∀ x ∈ fs, -1000 ≤ x ∧ x ≤ 1000) ∧ fs.length ≤ 1000 ∧ ss.length ≤ 1000 ∧
  ∀ H', Same H H' → Q (.bl (holds ss fs)) H'
theorem ok__law_holds {f : Addr} {fd : FuncData} {k : Nat} (F : Fun K "_law_holds" "_law_holds" s__law_holds f fd) (B : Bl mg) (c__law_value : C8.Cal P w K mg base k "_law_value" (spValue K) []) : FnOk P w K mg base CX0 (k + 1) f fd ["_law_some", "_law_filling"] (spHolds K) := by
  refine F.ok sc__law_holds (fun vs H Q E h => ?_) (fun cdv A outer s H vs Q E hr h => ?_)
  · obtain ⟨a, fa, us, ss, fs, rfl, _⟩ := h
    rfl
  obtain ⟨a, fa, us, ss, fs, rfl, hS, hU, hF, hw, hx, l1, l2, q⟩ := h
  refine ⟨_, (pss_one (ps_ret (pe_cmpR (kEqD (K := K) rfl hr.units) (pe_lc (own := [("_law_one", 2)]) rfl sc__law_holds.nd (kList_ (K := K) rfl (pv 0)) (blkOk_by (own := [("_law_one", 2)]) (N := ["_law_some", "_law_filling", "_law_one"]) (sc := defScope s__law_holds) (by decide +kernel)) (fun _ _ _ _ _ => (pgN (i := 2) sc__law_holds.nd rfl (.inl rfl) (.inr rfl))) (fun _ _ _ _ _ => (pts_one (pt_cmpR op_gt (C8.pe_c c__law_value hr (Nat.le_refl _) (by rfl) (pa_cons (pv 2) (pa_cons (pv 1) pa_nil))) pe_int (nomark _)))) (fun _ _ _ _ _ => pe_int)) (pe_lst pa_nil) (nomark _)))), ?_⟩
  have szl : (100000 : Nat) ≤ sizeLine := by decide
  have lu := hU.len
  refine ⟨_, rfl, _, rfl, ⟨_, hS⟩, fun D nD => ?_⟩
  refine lc_it (walk_list (xs := us)) (fun i H' => Same H H' ∧ ∃ ws : List Int, H' D = some (.lst (ws.map V.int)) ∧ ws.length ≤ i ∧ decide (ws = []) = holds (ss.take i) fs) ⟨sameNew nD, [], upd_same, Nat.le_refl _, by simp [holds]⟩ (fun i H' _ p => Same.seq p.1 hS) (fun i x H1 H2 hi p y => ?_) (fun H1 p => ?_)
  · obtain ⟨sm, ws, hW, lw, hd⟩ := p
    obtain ⟨rfl, ex⟩ := y
    obtain ⟨s0, es, hs⟩ := A2.at hU ex
    have ms := List.mem_of_getElem? es
    refine ⟨rfl, ?_⟩
    refine ⟨_, rfl, _, rfl, x, fa, s0, fs, rfl, SumIn.mono sm hs, Same.seq sm hF, (hw s0 ms).1, l1, fun n hn => wdSmall (by have := (hw s0 ms).2 n hn; omega), fun z hz => wdSmall (by have := hx z hz; omega), fun H3 s3 => ?_⟩
    refine ⟨_, _, rfl, rfl, _, rfl, ?_⟩
    have hW3 := s3 _ _ hW
    refine yesDec (fun c => ?_) (fun c => ?_)
    · refine ⟨ws.map V.int, hW3, by simp; omega, sameMut (Same.trans sm s3) nD, ws ++ [1], by rw [upd_same]; simp, by simp; omega, ?_⟩
      rw [holds_take es, decide_eq_false (p := val s0 fs ≤ 0) (by omega), Bool.and_false]
      simp
    · refine ⟨Same.trans sm s3, ws, hW3, by omega, ?_⟩
      rw [holds_take es, decide_eq_true (p := val s0 fs ≤ 0) (by omega), Bool.and_true]
      exact hd
  · obtain ⟨sm, ws, hW, lw, hd⟩ := p
    refine ⟨by show 0 ≤ sizeLine; decide, fun E nE => ?_⟩
    refine ⟨.list (dI ws), .list [], .lst (.of (sameNew nE _ _ hW)) (dpInts ws), .lst (.of upd_same) .nil, (lyLst (lyInts ws)).shaped (by decide), (lyLst (lyNil 1)).shaped (by decide), ?_⟩
    rw [eqvNil7, hd, lu, List.take_length]
    exact q _ (Same.trans sm (sameNew nE))

end

end LW

namespace LW
open PySem PySem.Spec PyProof.Rows L2
local macro_rules | `(tactic| walk_at "go1") => `(tactic| first
  | refine ⟨_, rfl, ?_⟩
  | refine ⟨_, _, rfl, rfl, ?_⟩
  | refine ⟨show (0 : Int) < _ from by omega, ?_⟩
  | refine ⟨show CMul _ _ from by first | exact .inl ⟨by omega, by omega⟩ | exact .inr ⟨by omega, by omega⟩, ?_⟩
  | refine ⟨show CDiv _ _ from ⟨by omega, by omega⟩, ?_⟩)
local macro_rules | `(tactic| walk_at "go") => `(tactic| repeat walk_at "go1")

section
variable {P : Program} {w : World} {K : PySem.W.Frag} {mg : Str → Option Value} {base : Heap}

abbrev s__law_whole : Stmt := topS 11
theorem sc__law_whole : FnScope ["_law_thing"] ["_law_thing"] (defScope s__law_whole) := ⟨rfl, rfl, rfl, by decide +kernel, rfl, by decide +kernel, by decide +kernel⟩

def spWhole : Sp := fun vs H Q _ => ∃ (i : Int), vs = [.int i] ∧ Q (.bl true) H
theorem ok__law_whole {f : Addr} {fd : FuncData} {k : Nat} (F : Fun K "_law_whole" "_law_whole" s__law_whole f fd) (B : Bl mg) : FnOk P w K mg base CX0 (k + 1) f fd ["_law_thing"] spWhole := by
  refine F.ok sc__law_whole (fun vs H Q E h => ?_) (fun cdv A outer s H vs Q E hr h => ?_)
  · obtain ⟨i, rfl, _⟩ := h
    rfl
  obtain ⟨i, rfl, q⟩ := h
  refine ⟨_, (pss_one (ps_ret (pe_and (pe_callB (kIsi (K := K) rfl) (by rfl) B.isinstance (by decide +kernel) (pa_cons (pv 0) (pa_cons (pe_bltn (v := .ty "int") (by rfl) B.int (by decide +kernel) rfl) pa_nil))) (pe_one (pe_not (pe_callB (kIsi (K := K) rfl) (by rfl) B.isinstance (by decide +kernel) (pa_cons (pv 0) (pa_cons (pe_bltn (v := .ty "bool") (by rfl) B.bool (by decide +kernel) rfl) pa_nil)))))))), ?_⟩
  refine ⟨_, rfl, _, _, _, _, true, rfl, .ty _, .base (.int _), kit_ty (by decide +kernel), _, rfl, ?_⟩
  refine iteT ?_
  refine ⟨_, rfl, _, _, _, _, false, rfl, .ty _, .base (.int _), kit_ty (by decide +kernel), _, rfl, ?_⟩
  exact q

abbrev s__law_is_tree : Stmt := topS 21
theorem sc__law_is_tree : FnScope ["_law_stretch_here", "_law_some", "_law_tree", "_law_pair", "_law_below", "_law_above"] ["_law_stretch_here", "_law_some", "_law_tree"] (defScope s__law_is_tree) := ⟨rfl, rfl, rfl, by decide +kernel, rfl, by decide +kernel, by decide +kernel⟩

def spIsT (K : PySem.W.Frag) (i : Nat) : Sp := fun vs H Q _ => ∃ (a b : Addr) (tv : V) (st : List Iv) (us : List V) (ss : List Sm) (t : Tr), vs = [.ref a, .ref b, tv] ∧ StrIn K H a st ∧ SqL K H b us ∧ A2 (SumIn K H) us ss ∧ (∀ s ∈ ss, s.1.length = st.length ∧ ∀ n ∈ s.1, -9 ≤ n ∧ n ≤ 9) ∧ st.length ≤ 1000 ∧ TrIn K H tv t ∧ t.deep ≤ i ∧ ∀ H', Same H H' → Q (.bl (isT ss st t)) H'
theorem ok__law_is_tree {f : Addr} {fd : FuncData} {k i : Nat} (F : Fun K "_law_is_tree" "_law_is_tree" s__law_is_tree f fd) (B : Bl mg) (c__law_whole : C8.Cal P w K mg base k "_law_whole" spWhole []) (c__law_least : C8.Cal P w K mg base k "_law_least" (spLeast K) []) (c__law_is_tree : C8.Cal P w K mg base k "_law_is_tree" (spIsT K i) []) :
    FnOk P w K mg base CX0 (k + 1) f fd ["_law_stretch_here", "_law_some", "_law_tree"] (spIsT K (i + 1)) := by
  refine F.ok sc__law_is_tree (fun vs H Q E h => ?_) (fun cdv A outer s H vs Q E hr h => ?_)
  · obtain ⟨a, b, tv, st, us, ss, t, rfl, _⟩ := h
    rfl
  obtain ⟨a, b, tv, st, us, ss, t, rfl, ⟨ws, hS, hW⟩, hU, hUs, hw, hz, ht, hdp, q⟩ := h
  refine ⟨_, (pss_cons (ps_if (PW.pt (pw_or (pt_not (pt_val (pe_callB (kIsi (K := K) rfl) (by rfl) B.isinstance (by decide +kernel) (pa_cons (pv 2) (pa_cons (pe_bltn (v := .ty "tuple") (by rfl) B.tuple (by decide +kernel) rfl) pa_nil))))) (pw_or (pt_cmpR op_lt (pe_callB (kLen (K := K) rfl) (by rfl) B.len PySem.boot_len (pa_cons (pv 2) pa_nil)) pe_int (nomark _)) (pw_or (pt_not (pt_val (C8.pe_c c__law_whole hr (Nat.le_refl _) (by rfl) (pa_cons (pe_ix (kIxT (K := K) rfl) (pv 2) pe_int (fun _ _ => rfl)) pa_nil)))) (pw_or1 (pt_cmpR op_lt (pe_ix (kIxT (K := K) rfl) (pv 2) pe_int (fun _ _ => rfl)) pe_int (nomark _)))))))
      (pss_one (ps_ret pe_bl))
      pss_nil)
    (pss_cons (ps_if (pt_cmpR op_eq (pe_ix (kIxT (K := K) rfl) (pv 2) pe_int (fun _ _ => rfl)) pe_str (nomark _))
      (pss_one (ps_ret (pe_and (pe_cmpR op_eq (pe_callB (kLen (K := K) rfl) (by rfl) B.len PySem.boot_len (pa_cons (pv 2) pa_nil)) pe_int (nomark _)) (pe_and (pe_cmpR op_lt (pe_ix (kIxT (K := K) rfl) (pv 2) pe_int (fun _ _ => rfl)) (pe_callB (kLen (K := K) rfl) (by rfl) B.len PySem.boot_len (pa_cons (pv 1) pa_nil)) (nomark _)) (pe_one (pe_cmpR op_gt (C8.pe_c c__law_least hr (Nat.le_refl _) (by rfl) (pa_cons (pe_ix (kIxL (K := K) rfl) (pv 1) (pe_ix (kIxT (K := K) rfl) (pv 2) pe_int (fun _ _ => rfl)) (fun _ _ => rfl)) (pa_cons (pv 0) pa_nil))) pe_int (nomark _)))))))
      pss_nil)
    (pss_cons (ps_if (PW.pt (pw_or (pt_cmpR op_ne (pe_ix (kIxT (K := K) rfl) (pv 2) pe_int (fun _ _ => rfl)) pe_str (nomark _)) (pw_or (pt_cmpR op_ne (pe_callB (kLen (K := K) rfl) (by rfl) B.len PySem.boot_len (pa_cons (pv 2) pa_nil)) pe_int (nomark _)) (pw_or (pt_cmpR op_ge (pe_ix (kIxT (K := K) rfl) (pv 2) pe_int (fun _ _ => rfl)) (pe_callB (kLen (K := K) rfl) (by rfl) B.len PySem.boot_len (pa_cons (pv 0) pa_nil)) (nomark _)) (pw_or1 (pt_not (pt_val (C8.pe_c c__law_whole hr (Nat.le_refl _) (by rfl) (pa_cons (pe_ix (kIxT (K := K) rfl) (pv 2) pe_int (fun _ _ => rfl)) pa_nil)))))))))
      (pss_one (ps_ret pe_bl))
      pss_nil)
    (pss_cons (ps_set (i := 3) sc__law_is_tree.nd rfl (.inl rfl) (pe_ix (kIxL (K := K) rfl) (pv 0) (pe_ix (kIxT (K := K) rfl) (pv 2) pe_int (fun _ _ => rfl)) (fun _ _ => rfl)))
    (pss_cons (ps_if (pt_not (pt_chain op_le op_lt (pe_ix (kIxT (K := K) rfl) (pv 3) pe_int (fun _ _ => rfl)) (pe_ix (kIxT (K := K) rfl) (pv 2) pe_int (fun _ _ => rfl)) (pe_ix (kIxT (K := K) rfl) (pv 3) pe_int (fun _ _ => rfl))))
      (pss_one (ps_ret pe_bl))
      pss_nil)
    (pss_cons (ps_set (i := 4) sc__law_is_tree.nd rfl (.inl rfl) (pe_op op_cat (pe_op op_cat (pe_slice (kSlL (K := K) rfl) (pv 0) po_none (po_some (pe_ix (kIxT (K := K) rfl) (pv 2) pe_int (fun _ _ => rfl)))) (pe_lst (pa_cons (pe_tup (pa_cons (pe_ix (kIxT (K := K) rfl) (pv 3) pe_int (fun _ _ => rfl)) (pa_cons (pe_ix (kIxT (K := K) rfl) (pv 2) pe_int (fun _ _ => rfl)) pa_nil))) pa_nil))) (pe_slice (kSlL (K := K) rfl) (pv 0) (po_some (pe_op op_add (pe_ix (kIxT (K := K) rfl) (pv 2) pe_int (fun _ _ => rfl)) pe_int)) po_none)))
    (pss_cons (ps_set (i := 5) sc__law_is_tree.nd rfl (.inl rfl) (pe_op op_cat (pe_op op_cat (pe_slice (kSlL (K := K) rfl) (pv 0) po_none (po_some (pe_ix (kIxT (K := K) rfl) (pv 2) pe_int (fun _ _ => rfl)))) (pe_lst (pa_cons (pe_tup (pa_cons (pe_op op_add (pe_ix (kIxT (K := K) rfl) (pv 2) pe_int (fun _ _ => rfl)) pe_int) (pa_cons (pe_ix (kIxT (K := K) rfl) (pv 3) pe_int (fun _ _ => rfl)) pa_nil))) pa_nil))) (pe_slice (kSlL (K := K) rfl) (pv 0) (po_some (pe_op op_add (pe_ix (kIxT (K := K) rfl) (pv 2) pe_int (fun _ _ => rfl)) pe_int)) po_none)))
    (pss_one (ps_ret (pe_and (C8.pe_c c__law_is_tree hr (Nat.le_refl _) (by rfl) (pa_cons (pv 4) (pa_cons (pv 1) (pa_cons (pe_ix (kIxT (K := K) rfl) (pv 2) pe_int (fun _ _ => rfl)) pa_nil)))) (pe_one (C8.pe_c c__law_is_tree hr (Nat.le_refl _) (by rfl) (pa_cons (pv 5) (pa_cons (pv 1) (pa_cons (pe_ix (kIxT (K := K) rfl) (pv 2) pe_int (fun _ _ => rfl)) pa_nil))))))))))))))), ?_⟩
  have szl : (100000 : Nat) ≤ sizeLine := by decide
  have lu := hUs.len
  have lw := hW.len
  cases ht with
  | @sum ta n h =>
    refine ⟨_, rfl, _, _, _, _, true, rfl, .ty _, tyTup h, kit_ty (by decide +kernel), _, rfl, ?_⟩
    refine iteF ⟨_, rfl, _, _, rfl, .inr h, _, _, rfl, rfl, _, rfl, ?_⟩
    refine yesDec (fun c => absurd c (by simp)) (fun _ => ?_)
    refine ⟨_, rfl, _, _, _, _, rfl, rfl, h, atI_nat (j := 1) rfl, n, rfl, _, rfl, ?_⟩
    refine iteF ⟨_, rfl, _, _, _, _, rfl, rfl, h, atI_nat (j := 1) rfl, _, _, rfl, rfl, _, rfl, ?_⟩
    refine yesDec (fun c => ?_) (fun c => ?_)
    · have e : isT ss st (.sum n) = false := by rw [isT, decide_eq_false (by omega)]; rfl
      rw [e] at q
      exact q _ (Same.refl _)
    refine ⟨_, rfl, _, _, _, _, rfl, rfl, h, atI_nat (j := 0) rfl, rfl, _, rfl, ?_⟩
    rw [decide_eq_true rfl]
    refine iteT ?_
    refine ⟨_, rfl, _, _, rfl, .inr h, rfl, _, rfl, ?_⟩
    refine yesDec (fun _ => ?_) (fun c2 => absurd rfl c2)
    refine ⟨_, rfl, _, _, _, _, rfl, rfl, h, atI_nat (j := 1) rfl, _, rfl, _, _, rfl, .inl hU, _, _, rfl, rfl, _, rfl, ?_⟩
    refine yesDec (fun c3 => ?_) (fun c3 => ?_)
    · obtain ⟨j, rfl⟩ : ∃ j : Nat, n = (j : Int) := ⟨n.toNat, by omega⟩
      have hj : j < us.length := by omega
      obtain ⟨s0, es, hs⟩ := A2.at hUs (List.getElem?_eq_getElem hj)
      refine ⟨_, rfl, _, rfl, _, _, _, _, rfl, rfl, h, atI_nat (j := 1) rfl, _, _, _, _, rfl, rfl, hU, atI_nat (List.getElem?_eq_getElem hj), _, rfl, _, a, s0, st, rfl, hs, ⟨ws, hS, hW⟩, (hw s0 (List.mem_of_getElem? es)).1, hz, (hw s0 (List.mem_of_getElem? es)).2, fun H1 s1 => ?_⟩
      refine ⟨_, _, rfl, rfl, ?_⟩
      have e : isT ss st (.sum (j : Int)) = decide (0 < least s0 st) := by
        rw [isT, Int.toNat_natCast, es, decide_eq_true (by omega)]
        simp
      rw [e] at q
      exact q _ s1
    · have e : isT ss st (.sum n) = false := by
        rw [isT, List.getElem?_eq_none (by omega)]
        simp
      rw [e] at q
      exact q _ (Same.refl _)
  | @cut ta n c v1 v2 t1 t2 h h1 h2 =>
    simp only [Tr.deep] at hdp
    refine ⟨_, rfl, _, _, _, _, true, rfl, .ty _, tyTup h, kit_ty (by decide +kernel), _, rfl, ?_⟩
    refine iteF ⟨_, rfl, _, _, rfl, .inr h, _, _, rfl, rfl, _, rfl, ?_⟩
    refine yesDec (fun c => absurd c (by simp)) (fun _ => ?_)
    refine ⟨_, rfl, _, _, _, _, rfl, rfl, h, atI_nat (j := 1) rfl, n, rfl, _, rfl, ?_⟩
    refine iteF ⟨_, rfl, _, _, _, _, rfl, rfl, h, atI_nat (j := 1) rfl, _, _, rfl, rfl, _, rfl, ?_⟩
    refine yesDec (fun c0 => ?_) (fun c0 => ?_)
    · have e : isT ss st (.cut n c t1 t2) = false := by rw [isT, decide_eq_false (by omega)]; rfl
      rw [e] at q
      exact q _ (Same.refl _)
    refine ⟨_, rfl, _, _, _, _, rfl, rfl, h, atI_nat (j := 0) rfl, rfl, _, rfl, ?_⟩
    rw [decide_eq_false (fun e => cutK (V.str.inj e))]
    refine iteF ?_
    refine ⟨_, rfl, _, _, _, _, rfl, rfl, h, atI_nat (j := 0) rfl, rfl, _, rfl, ?_⟩
    refine notDec (fun c2 => absurd rfl c2) (fun _ => ?_)
    refine ⟨_, rfl, _, _, rfl, .inr h, rfl, _, rfl, ?_⟩
    refine notDec (fun c2 => absurd rfl c2) (fun _ => ?_)
    refine ⟨_, rfl, _, _, _, _, rfl, rfl, h, atI_nat (j := 1) rfl, _, rfl, _, _, rfl, .inl hS, _, _, rfl, rfl, _, rfl, ?_⟩
    refine yesDec (fun c3 => ?_) (fun c3 => ?_)
    · have e : isT ss st (.cut n c t1 t2) = false := by
        rw [isT, List.getElem?_eq_none (by omega)]
        simp
      rw [e] at q
      exact q _ (Same.refl _)
    refine ⟨_, rfl, _, _, _, _, rfl, rfl, h, atI_nat (j := 2) rfl, c, rfl, _, rfl, ?_⟩
    refine iteF ?_
    obtain ⟨j, rfl⟩ : ∃ j : Nat, n = (j : Int) := ⟨n.toNat, by omega⟩
    have hj : j < ws.length := by omega
    obtain ⟨p, ep, ⟨tp, ew, hp⟩⟩ := A2.at hW (List.getElem?_eq_getElem hj)
    have ew2 : ws[j]? = some (.ref tp) := by rw [List.getElem?_eq_getElem hj, ew]
    refine ⟨_, rfl, _, rfl, _, _, _, _, rfl, rfl, h, atI_nat (j := 1) rfl, _, _, _, _, rfl, rfl, hS, atI_nat ew2, ?_⟩
    have eT : isT ss st (.cut (j : Int) c t1 t2) = (decide (p.1 ≤ c) && decide (c < p.2) && isT ss (below st j p c) t1 && isT ss (above st j p c) t2) := by
      rw [isT, Int.toNat_natCast, ep, decide_eq_true (by omega)]
      simp
    rw [eT] at q
    refine ⟨_, rfl, _, _, _, _, rfl, rfl, hp, atI_nat (j := 0) rfl, _, rfl, _, _, _, _, rfl, rfl, h, atI_nat (j := 2) rfl, _, _, rfl, rfl, _, rfl, ?_⟩
    refine yesDec (fun c4 => ?_) (fun c4 => ?_)
    rotate_left
    · refine ⟨_, rfl, iteT ?_⟩
      rw [decide_eq_false (p := p.1 ≤ c) c4] at q
      exact q _ (Same.refl _)
    refine ⟨_, rfl, _, _, _, _, rfl, rfl, hp, atI_nat (j := 1) rfl, _, _, rfl, rfl, _, rfl, ?_⟩
    refine notDec (fun c5 => ?_) (fun c5 => ?_)
    · rw [decide_eq_false (p := c < p.2) c5, Bool.and_false] at q
      exact q _ (Same.refl _)
    rw [decide_eq_true (p := p.1 ≤ c) c4, decide_eq_true (p := c < p.2) c5, Bool.true_and, Bool.true_and] at q
    -- below
    have e1 : (j : Int) + 1 = ((j + 1 : Nat) : Int) := by omega
    refine ⟨_, rfl, _, rfl, _, _, _, _, rfl, rfl, h, atI_nat (j := 1) rfl, _, rfl, _, _, rfl, hS, fun X nX => ?_⟩
    rw [cutTake]
    have sX := sameNew (o := .lst (ws.take j)) nX
    refine ⟨_, rfl, _, _, _, _, rfl, rfl, tupS sX hp, atI_nat (j := 0) rfl, _, rfl, _, _, _, _, rfl, rfl, tupS sX h, atI_nat (j := 2) rfl, by show 2 ≤ sizeLine; decide, fun T nT => ⟨by show 1 ≤ sizeLine; decide, fun W nW => ⟨X, W, _, _, rfl, rfl, (Same.trans (sameNew nT) (sameNew nW)) _ _ upd_same, upd_same, by simp; omega, fun Y nY => ?_⟩⟩⟩
    have sTY := Same.trans (sameNew (o := .tup [.int p.1, .int c]) nT) (Same.trans (sameNew (o := .lst [.ref T]) nW) (sameNew (o := .lst (ws.take j ++ [.ref T])) nY))
    have sY := Same.trans sX sTY
    refine ⟨_, rfl, _, rfl, _, _, _, _, rfl, rfl, tupS sY h, atI_nat (j := 1) rfl, _, _, rfl, rfl, _, rfl, _, _, rfl, Same.seq sY hS, fun Z nZ => ?_⟩
    rw [e1, cutDrop]
    refine ⟨Y, Z, _, _, rfl, rfl, sameNew nZ _ _ upd_same, upd_same, by simp; omega, fun R nR => ?_⟩
    have sYR := Same.trans (sameNew (o := .lst (ws.drop (j + 1))) nZ) (sameNew (o := .lst (ws.take j ++ [.ref T] ++ ws.drop (j + 1))) nR)
    have s1 := Same.trans sY sYR
    have hB : StrIn K (upd (upd (upd (upd (upd (upd H X (.lst (ws.take j))) T (.tup [.int p.1, .int c])) W (.lst [.ref T])) Y (.lst (ws.take j ++ [.ref T]))) Z (.lst (ws.drop (j + 1)))) R (.lst (ws.take j ++ [.ref T] ++ ws.drop (j + 1)))) R (below st j p c) :=
      ⟨_, .of upd_same, ((A2.take j (priTS (tsOf s1) hW)).app (.cons ⟨T, rfl, tupS (Same.trans (Same.trans (sameNew nW) (sameNew nY)) sYR) (.of upd_same)⟩ .nil)).app (A2.drop (j + 1) (priTS (tsOf s1) hW))⟩
    generalize upd (upd (upd (upd (upd (upd H X (.lst (ws.take j))) T (.tup [.int p.1, .int c])) W (.lst [.ref T])) Y (.lst (ws.take j ++ [.ref T]))) Z (.lst (ws.drop (j + 1)))) R (.lst (ws.take j ++ [.ref T] ++ ws.drop (j + 1))) = H1 at *
    clear sYR sY sTY sX nR nZ nY nW nT nX
    -- above
    refine ⟨_, rfl, _, rfl, _, _, _, _, rfl, rfl, tupS s1 h, atI_nat (j := 1) rfl, _, rfl, _, _, rfl, Same.seq s1 hS, fun X nX => ?_⟩
    rw [cutTake]
    have sX := Same.trans s1 (sameNew (o := .lst (ws.take j)) nX)
    refine ⟨_, rfl, _, _, _, _, rfl, rfl, tupS sX h, atI_nat (j := 2) rfl, _, _, rfl, rfl, _, rfl, _, _, _, _, rfl, rfl, tupS sX hp, atI_nat (j := 1) rfl, by show 2 ≤ sizeLine; decide, fun T nT => ⟨by show 1 ≤ sizeLine; decide, fun W nW => ⟨X, W, _, _, rfl, rfl, (Same.trans (sameNew nT) (sameNew nW)) _ _ upd_same, upd_same, by simp; omega, fun Y nY => ?_⟩⟩⟩
    have sTY := Same.trans (sameNew (o := .tup [.int (c + 1), .int p.2]) nT) (Same.trans (sameNew (o := .lst [.ref T]) nW) (sameNew (o := .lst (ws.take j ++ [.ref T])) nY))
    have sY := Same.trans sX sTY
    refine ⟨_, rfl, _, rfl, _, _, _, _, rfl, rfl, tupS sY h, atI_nat (j := 1) rfl, _, _, rfl, rfl, _, rfl, _, _, rfl, Same.seq sY hS, fun Z nZ => ?_⟩
    rw [e1, cutDrop]
    refine ⟨Y, Z, _, _, rfl, rfl, sameNew nZ _ _ upd_same, upd_same, by simp; omega, fun R2 nR => ?_⟩
    have sYR := Same.trans (sameNew (o := .lst (ws.drop (j + 1))) nZ) (sameNew (o := .lst (ws.take j ++ [.ref T] ++ ws.drop (j + 1))) nR)
    have s2 := Same.trans sY sYR
    have s12 := Same.trans (Same.trans (sameNew (o := .lst (ws.take j)) nX) sTY) sYR
    have hA : StrIn K (upd (upd (upd (upd (upd (upd H1 X (.lst (ws.take j))) T (.tup [.int (c + 1), .int p.2])) W (.lst [.ref T])) Y (.lst (ws.take j ++ [.ref T]))) Z (.lst (ws.drop (j + 1)))) R2 (.lst (ws.take j ++ [.ref T] ++ ws.drop (j + 1)))) R2 (above st j p c) :=
      ⟨_, .of upd_same, ((A2.take j (priTS (tsOf s2) hW)).app (.cons ⟨T, rfl, tupS (Same.trans (Same.trans (sameNew nW) (sameNew nY)) sYR) (.of upd_same)⟩ .nil)).app (A2.drop (j + 1) (priTS (tsOf s2) hW))⟩
    generalize upd (upd (upd (upd (upd (upd H1 X (.lst (ws.take j))) T (.tup [.int (c + 1), .int p.2])) W (.lst [.ref T])) Y (.lst (ws.take j ++ [.ref T]))) Z (.lst (ws.drop (j + 1)))) R2 (.lst (ws.take j ++ [.ref T] ++ ws.drop (j + 1))) = H2 at *
    clear sYR sY sTY sX nR nZ nY nW nT nX
    have lenB : (below st j p c).length = st.length := by simp [below]; omega
    have lenA : (above st j p c).length = st.length := by simp [above]; omega
    have sums : ∀ {H' : Hp}, Same H H' → A2 (SumIn K H') us ss := fun e => A2.map (B' := ss) (fun _ _ _ r => SumIn.mono e r) (fun _ m => m) hUs
    refine ⟨_, rfl, _, rfl, _, rfl, _, _, _, _, rfl, rfl, tupS s2 h, atI_nat (j := 3) rfl, R, b, v1, below st j p c, us, ss, t1, rfl, hB.same s12, Same.seq s2 hU, sums s2, fun s hs => ⟨(hw s hs).1.trans lenB.symm, (hw s hs).2⟩, by omega, trTS (tsOf s2) h1, by omega, fun H3 s3 => ?_⟩
    refine ⟨_, rfl, ?_⟩
    refine ifB (fun e => ?_) (fun e => ?_)
    · rw [e, Bool.true_and] at q
      have s23 := Same.trans s2 s3
      exact ⟨_, rfl, _, rfl, _, rfl, _, _, _, _, rfl, rfl, tupS s23 h, atI_nat (j := 4) rfl, R2, b, v2, above st j p c, us, ss, t2, rfl, hA.same s3, Same.seq s23 hU, sums s23, fun s hs => ⟨(hw s hs).1.trans lenA.symm, (hw s hs).2⟩, by omega, trTS (tsOf s23) h2, by omega, fun H4 s4 => q _ (Same.trans s23 s4)⟩
    · rw [e, Bool.false_and] at q
      exact q _ (Same.trans s2 s3)

end

end LW

namespace LW
open PySem PySem.Spec PyProof.Rows L2
local macro_rules | `(tactic| walk_at "go1") => `(tactic| first
  | refine ⟨_, rfl, ?_⟩
  | refine ⟨_, _, rfl, rfl, ?_⟩
  | refine ⟨show (0 : Int) < _ from by omega, ?_⟩
  | refine ⟨show CMul _ _ from by first | exact .inl ⟨by omega, by omega⟩ | exact .inr ⟨by omega, by omega⟩, ?_⟩
  | refine ⟨show CDiv _ _ from ⟨by omega, by omega⟩, ?_⟩)
local macro_rules | `(tactic| walk_at "go") => `(tactic| repeat walk_at "go1")

section
variable {P : Program} {w : World} {K : PySem.W.Frag} {mg : Str → Option Value} {base : Heap}

abbrev s__law_all_in : Stmt := topS 23
theorem sc__law_all_in : FnScope ["_law_stretch_here", "_law_found", "_law_pair", "_law_more", "_law_filling", "_law_held"] ["_law_stretch_here"] (defScope s__law_all_in) := ⟨rfl, rfl, rfl, by decide +kernel, rfl, by decide +kernel, by decide +kernel⟩

def spAllIn (K : PySem.W.Frag) : Sp := fun vs H Q _ => ∃ (a : Addr) (st : List Iv), vs = [.ref a] ∧ StrIn K H a st ∧ st.length ≤ 3 ∧ (∀ p ∈ st, -1000 ≤ p.1 ∧ p.1 ≤ 1000 ∧ p.1 ≤ p.2 ∧ p.2 ≤ p.1 + 9) ∧ ∀ (p : Addr) (H' : Hp) (vs : List V), H p = none → Same H H' → H' p = some (.lst vs) → A2 (FIn K H') vs (allIn st) → Q (.ref p) H'
theorem ok__law_all_in {f : Addr} {fd : FuncData} {k : Nat} (F : Fun K "_law_all_in" "_law_all_in" s__law_all_in f fd) (B : Bl mg) : FnOk P w K mg base CX0 (k + 1) f fd ["_law_stretch_here"] (spAllIn K) := by
  refine F.ok sc__law_all_in (fun vs H Q E h => ?_) (fun cdv A outer s H vs Q E hr h => ?_)
  · obtain ⟨a, st, rfl, _⟩ := h
    rfl
  obtain ⟨a, st, rfl, ⟨ws, hS, hW⟩, l3, hb, q⟩ := h
  refine ⟨_, (pss_cons (ps_set (i := 1) sc__law_all_in.nd rfl (.inl rfl) (pe_lst (pa_cons (pe_lst pa_nil) pa_nil)))
    (pss_cons (ps_for PassesOwn.never rfl (kList_ (K := K) rfl (pv 0)) (pg_name (i := 2) sc__law_all_in.nd rfl (.inl rfl))
      (pss_cons (ps_set (i := 3) sc__law_all_in.nd rfl (.inl rfl) (pe_lst pa_nil))
      (pss_cons (ps_for PassesOwn.never rfl (kList_ (K := K) rfl (pv 1)) (pg_name (i := 4) sc__law_all_in.nd rfl (.inr rfl))
        (pss_one (ps_set (i := 3) sc__law_all_in.nd rfl (.inl rfl) (pe_op op_cat (pv 3) (pe_lc (own := [("_law_held", 5)]) rfl sc__law_all_in.nd (pi_range2 (by rfl) B.range (pa_cons (pe_ix (kIxT (K := K) rfl) (pv 2) pe_int (fun _ _ => rfl)) (pa_cons (pe_op op_add (pe_ix (kIxT (K := K) rfl) (pv 2) pe_int (fun _ _ => rfl)) pe_int) pa_nil))) (blkOk_by (own := [("_law_held", 5)]) (N := ["_law_stretch_here", "_law_found", "_law_pair", "_law_more", "_law_filling", "_law_held"]) (sc := defScope s__law_all_in) (by decide +kernel)) (fun _ _ _ _ _ => (pgN (i := 5) sc__law_all_in.nd rfl (.inl rfl) (.inr rfl))) (fun _ _ _ _ _ => pts_nil) (fun _ _ _ _ _ => (pe_op op_cat (pv 4) (pe_lst (pa_cons (pv 5) pa_nil)))))))))
      (pss_one (ps_set (i := 1) sc__law_all_in.nd rfl (.inl rfl) (pv 3))))))
    (pss_one (ps_ret (pv 1))))), ?_⟩
  have szl : (100000 : Nat) ≤ sizeLine := by decide
  have lw := hW.len
  have hm : ∀ p ∈ st, many p ≤ 10 := fun p hp => by
    have := hb p hp
    unfold many
    omega
  refine ⟨by show 0 ≤ sizeLine; decide, fun E0 nE => ⟨by show 1 ≤ sizeLine; decide, fun F0 nF => ?_⟩⟩
  have s0 := Same.trans (sameNew (o := .lst []) nE) (sameNew (o := .lst [.ref E0]) nF)
  refine ⟨_, rfl, _, rfl, ⟨_, Same.seq s0 hS⟩, ?_⟩
  refine for_it (walk_list (xs := ws)) (fun i σ H' => Same H H' ∧ ∃ (fa : Addr) (fv : List V) (y2 y3 y4 y5 : Option V), σ = [some (.ref a), some (.ref fa), y2, y3, y4, y5] ∧ H fa = none ∧ H' fa = some (.lst fv) ∧ A2 (FIn K H') fv (allIn (st.take i)))
    ⟨s0, F0, [.ref E0], none, none, none, none, rfl, Same.free (sameNew nE) nF, upd_same, .cons ⟨E0, rfl, sameNew nF _ _ upd_same⟩ .nil⟩ (fun i σ H' _ p => Same.seq p.1 hS) (fun i x σ H' H0' hi p y => ?_) (fun σ H' p => ?_)
  · obtain ⟨sm, fa, fv, y2, y3, y4, y5, rfl, nfa, hfa, hF⟩ := p
    obtain ⟨rfl, ex⟩ := y
    obtain ⟨p, ep, ⟨tp, rfl, hp⟩⟩ := A2.at hW ex
    have mp := List.mem_of_getElem? ep
    have lfv : fv.length ≤ 1000 := by
      have h1 := hF.len
      have h2 := allIn_len hm i
      have h3 : 10 ^ i ≤ 10 ^ 3 := Nat.pow_le_pow_right (by decide) (by omega)
      omega
    refine ⟨by show 0 ≤ sizeLine; decide, fun M0 nM => ?_⟩
    have sM := sameNew (o := .lst []) nM
    refine ⟨_, rfl, _, rfl, ⟨_, .of (sM _ _ hfa)⟩, ?_⟩
    refine for_it (walk_list (xs := fv)) (fun j σ H2 => Same H0' H2 ∧ ∃ (ma : Addr) (mv : List V) (y4 y5 : Option V), σ = [some (.ref a), some (.ref fa), some (.ref tp), some (.ref ma), y4, y5] ∧ H ma = none ∧ H2 ma = some (.lst mv) ∧ A2 (FIn K H2) mv (ext ((allIn (st.take i)).take j) p))
      ⟨sM, M0, [], y4, y5, rfl, Same.free sm nM, upd_same, by simpa [ext] using A2.nil⟩ (fun j σ H2 _ w => .of (w.1 _ _ hfa)) (fun j x σ H2 H0b hj w y => ?_) (fun σ H2 w => ?_)
    · obtain ⟨s2, ma, mv, y4, y5, rfl, nma, hma, hMv⟩ := w
      obtain ⟨rfl, ex2⟩ := y
      obtain ⟨fl, efl, ⟨xa, rfl, hxa⟩⟩ := A2.at hF ex2
      have hb1 := hb p mp
      have lfl : fl.length ≤ 3 := by
        have := allIn_deep i fl (List.mem_of_getElem? efl)
        omega
      have lmv : mv.length ≤ 10000 := by
        have h1 := hMv.len
        rw [ext_len, List.length_take] at h1
        have h2 := hF.len
        have h3 := Nat.mul_le_mul (Nat.min_le_right j (allIn (st.take i)).length) (hm p mp)
        omega
      have smH := Same.trans sm s2
      refine ⟨_, rfl, _, rfl, _, _, _, _, rfl, rfl, tupS smH hp, atI_nat (j := 0) rfl, _, rfl, _, _, _, _, rfl, rfl, tupS smH hp, atI_nat (j := 1) rfl, _, _, rfl, rfl, _, _, rfl, ⟨by omega, by omega, by omega, by omega⟩, fun D nD => ?_⟩
      refine lc_it (walk_range (lo := p.1)) (fun m H3 => Same H0b H3 ∧ ∃ ys : List V, H3 D = some (.lst ys) ∧ A2 (FInN D H3) ys (exts fl p m)) ⟨sameNew nD, [], upd_same, .nil⟩ (fun _ _ _ _ => trivial) (fun m x H3 H4 hm2 w y => ?_) (fun H3 w => ?_)
      · obtain ⟨s3, ys, hD, hY⟩ := w
        obtain ⟨rfl, rfl⟩ := y
        have hxa3 := s3 _ _ (s2 _ _ hxa)
        refine ⟨rfl, ?_⟩
        refine lcYes ?_
        refine ⟨_, rfl, _, rfl, by show 1 ≤ sizeLine; decide, fun U nU => ⟨xa, U, _, _, rfl, rfl, sameNew nU _ _ hxa3, upd_same, by simp; omega, fun Y nY => ?_⟩⟩
        have sUY := Same.trans (sameNew (o := .lst [.int (p.1 + (m : Int))]) nU) (sameNew (o := .lst (fl.map V.int ++ [.int (p.1 + (m : Int))])) nY)
        have hDY := sUY _ _ hD
        have nYD : Y ≠ D := fun z => by rw [z, sameNew nU _ _ hD] at nY; cases nY
        refine ⟨ys, hDY, ?_, sameMut (Same.trans s3 sUY) nD, ys ++ [.ref Y], upd_same, ?_⟩
        · have h1 := hY.len
          simp only [exts, List.length_map, List.length_range] at h1
          omega
        · have e5 : exts fl p (m + 1) = exts fl p m ++ [fl ++ [p.1 + (m : Int)]] := by simp [exts, List.range_succ]
          rw [e5]
          refine (finNMut (finNSame sUY hY)).app (.cons ⟨Y, rfl, nYD, ?_⟩ .nil)
          rw [upd_ne nYD, upd_same]
          simp
      · obtain ⟨s3, ys, hD, hY⟩ := w
        have ly : ys.length ≤ 10 := by
          have h1 := hY.len
          simp only [exts, List.length_map, List.length_range] at h1
          have := hm p mp
          unfold many at this
          omega
        refine ⟨ma, D, mv, ys, rfl, rfl, s3 _ _ hma, hD, by omega, fun Y nY => ?_⟩
        have sY := Same.trans s3 (sameNew (o := .lst (mv ++ ys)) nY)
        refine ⟨Same.trans s2 sY, Y, mv ++ ys, _, _, rfl, Same.free (Same.trans smH s3) nY, upd_same, ?_⟩
        rw [ext_take efl]
        exact (finSame sY hMv).app (finSame (sameNew nY) (finN hY))
    · obtain ⟨s2, ma, mv, y4, y5, rfl, nma, hma, hMv⟩ := w
      refine ⟨_, rfl, Same.trans sm s2, ma, mv, _, _, _, _, rfl, nma, hma, ?_⟩
      rw [hF.len, List.take_length] at hMv
      rw [allIn_take ep]
      exact hMv
  · obtain ⟨sm, fa, fv, y2, y3, y4, y5, rfl, nfa, hfa, hF⟩ := p
    rw [lw, List.take_length] at hF
    exact ⟨_, rfl, q fa H' fv nfa sm hfa hF⟩

end

end LW

namespace LW
open PySem PySem.Spec PyProof.Rows L2
local macro_rules | `(tactic| walk_at "go1") => `(tactic| first
  | refine ⟨_, rfl, ?_⟩
  | refine ⟨_, _, rfl, rfl, ?_⟩
  | refine ⟨show (0 : Int) < _ from by omega, ?_⟩
  | refine ⟨show CMul _ _ from by first | exact .inl ⟨by omega, by omega⟩ | exact .inr ⟨by omega, by omega⟩, ?_⟩
  | refine ⟨show CDiv _ _ from ⟨by omega, by omega⟩, ?_⟩)
local macro_rules | `(tactic| walk_at "go") => `(tactic| repeat walk_at "go1")

section
variable {P : Program} {w : World} {K : PySem.W.Frag} {mg : Str → Option Value} {base : Heap}

abbrev s__law_changed : Stmt := topS 25
theorem sc__law_changed : FnScope ["_law_tree", "_law_cells", "_law_cell", "_law_more", "_law_way"] ["_law_tree", "_law_cells"] (defScope s__law_changed) := ⟨rfl, rfl, rfl, by decide +kernel, rfl, by decide +kernel, by decide +kernel⟩

def spCh (K : PySem.W.Frag) (i : Nat) : Sp := fun vs H Q _ => ∃ (tv : V) (ca : Addr) (t : Tr) (cs : List Int), vs = [tv, .ref ca] ∧ TrIn K H tv t ∧ SqL K H ca (cs.map V.int) ∧ cs.length = i ∧ 1 ≤ i ∧ i ≤ 1000 ∧ (∀ c ∈ cs, 0 ≤ c) ∧ ∀ (H' : Hp) (v' : V) (t' : Tr), Same H H' → TrIn K H' v' t' → t'.deep ≤ t.deep + 1 → Q v' H'
theorem ok__law_changed {f : Addr} {fd : FuncData} {k i : Nat} (F : Fun K "_law_changed" "_law_changed" s__law_changed f fd) (B : Bl mg) (c__law_changed : C8.Cal P w K mg base k "_law_changed" (spCh K i) []) : FnOk P w K mg base CX0 (k + 1) f fd ["_law_tree", "_law_cells"] (spCh K (i + 1)) := by
  refine F.ok sc__law_changed (fun vs H Q E h => ?_) (fun cdv A outer s H vs Q E hr h => ?_)
  · obtain ⟨tv, ca, t, cs, rfl, _⟩ := h
    rfl
  obtain ⟨tv, ca, t, cs, rfl, ht, hC, hl, hi1, hi2, hc, q⟩ := h
  refine ⟨_, (pss_cons (ps_set (i := 2) sc__law_changed.nd rfl (.inl rfl) (pe_ix (kIxL (K := K) rfl) (pv 1) pe_int (fun _ _ => rfl)))
    (pss_cons (ps_set (i := 3) sc__law_changed.nd rfl (.inl rfl) (pe_ix (kIxL (K := K) rfl) (pe_lst (pa_cons pe_int (pa_cons (pe_un un_neg pe_int) (pa_cons pe_int (pa_cons (pv 2) pa_nil))))) (pe_op op_mod (pe_op op_fdiv (pv 2) pe_int) pe_int) (fun _ _ => rfl)))
    (pss_cons (ps_if (pt_cmpR op_eq (pe_ix (kIxT (K := K) rfl) (pv 0) pe_int (fun _ _ => rfl)) pe_str (nomark _))
      (pss_one (ps_ret (pe_ix (kIxL (K := K) rfl) (pe_lst (pa_cons (pe_tup (pa_cons pe_str (pa_cons (pe_op op_add (pe_ix (kIxT (K := K) rfl) (pv 0) pe_int (fun _ _ => rfl)) (pv 3)) pa_nil))) (pa_cons (pe_tup (pa_cons pe_str (pa_cons (pe_un un_neg pe_int) pa_nil))) (pa_cons (pe_tup (pa_cons pe_str (pa_cons (pe_op op_mod (pv 2) pe_int) (pa_cons (pe_op op_mod (pe_op op_fdiv (pv 2) pe_int) pe_int) (pa_cons (pv 0) (pa_cons (pv 0) pa_nil)))))) pa_nil)))) (pe_op op_mod (pe_op op_fdiv (pv 2) pe_int) pe_int) (fun _ _ => rfl))))
      pss_nil)
    (pss_cons (ps_set (i := 4) sc__law_changed.nd rfl (.inl rfl) (pe_op op_mod (pv 2) pe_int))
    (C8.pss_cut (ps_if (PW.pt (pw_and (pt_cmpR op_lt (pv 4) pe_int (nomark _)) (pw_and1 (pt_cmpR op_gt (pe_callB (kLen (K := K) rfl) (by rfl) B.len PySem.boot_len (pa_cons (pv 1) pa_nil)) pe_int (nomark _)))))
      (pss_one (ps_ret (pe_op (kCatT (K := K) rfl) (pe_slice (kSlT (K := K) rfl) (pv 0) po_none (po_some pe_int)) (pe_tup (pa_cons (C8.pe_c c__law_changed hr (Nat.le_refl _) (by rfl) (pa_cons (pe_ix (kIxT (K := K) rfl) (pv 0) pe_int (fun _ _ => rfl)) (pa_cons (pe_slice (kSlL (K := K) rfl) (pv 1) (po_some pe_int) po_none) pa_nil))) (pa_cons (pe_ix (kIxT (K := K) rfl) (pv 0) pe_int (fun _ _ => rfl)) pa_nil))))))
      pss_nil)
    (C8.pss_cut (ps_if (PW.pt (pw_and (pt_cmpR op_lt (pv 4) pe_int (nomark _)) (pw_and1 (pt_cmpR op_gt (pe_callB (kLen (K := K) rfl) (by rfl) B.len PySem.boot_len (pa_cons (pv 1) pa_nil)) pe_int (nomark _)))))
      (pss_one (ps_ret (pe_op (kCatT (K := K) rfl) (pe_slice (kSlT (K := K) rfl) (pv 0) po_none (po_some pe_int)) (pe_tup (pa_cons (C8.pe_c c__law_changed hr (Nat.le_refl _) (by rfl) (pa_cons (pe_ix (kIxT (K := K) rfl) (pv 0) pe_int (fun _ _ => rfl)) (pa_cons (pe_slice (kSlL (K := K) rfl) (pv 1) (po_some pe_int) po_none) pa_nil))) pa_nil)))))
      pss_nil)
    (pss_cons (ps_if (pt_cmpR op_eq (pv 4) pe_int (nomark _))
      (pss_one (ps_ret (pe_op (kCatT (K := K) rfl) (pe_tup (pa_cons pe_str (pa_cons (pe_op op_add (pe_ix (kIxT (K := K) rfl) (pv 0) pe_int (fun _ _ => rfl)) (pv 3)) pa_nil))) (pe_slice (kSlT (K := K) rfl) (pv 0) (po_some pe_int) po_none))))
      pss_nil)
    (pss_cons (ps_if (pt_cmpR op_eq (pv 4) pe_int (nomark _))
      (pss_one (ps_ret (pe_op (kCatT (K := K) rfl) (pe_tup (pa_cons pe_str (pa_cons (pe_ix (kIxT (K := K) rfl) (pv 0) pe_int (fun _ _ => rfl)) (pa_cons (pe_op op_add (pe_ix (kIxT (K := K) rfl) (pv 0) pe_int (fun _ _ => rfl)) (pv 3)) pa_nil)))) (pe_slice (kSlT (K := K) rfl) (pv 0) (po_some pe_int) po_none))))
      pss_nil)
    (pss_one (ps_ret (pe_ix (kIxL (K := K) rfl) (pe_lst (pa_cons (pe_tup (pa_cons pe_str (pa_cons (pe_ix (kIxT (K := K) rfl) (pv 0) pe_int (fun _ _ => rfl)) (pa_cons (pe_ix (kIxT (K := K) rfl) (pv 0) pe_int (fun _ _ => rfl)) (pa_cons (pe_ix (kIxT (K := K) rfl) (pv 0) pe_int (fun _ _ => rfl)) (pa_cons (pe_ix (kIxT (K := K) rfl) (pv 0) pe_int (fun _ _ => rfl)) pa_nil)))))) (pa_cons (pe_ix (kIxT (K := K) rfl) (pv 0) pe_int (fun _ _ => rfl)) pa_nil))) (pe_op op_mod (pe_op op_fdiv (pv 2) pe_int) pe_int) (fun _ _ => rfl)))))))))))), ?_⟩
  have szl : (100000 : Nat) ≤ sizeLine := by decide
  have dv : ∀ z : Int, CDiv z 7 ∧ CDiv z 28 ∧ CDiv z 3 := fun z => ⟨⟨by decide, by decide⟩, ⟨by decide, by decide⟩, ⟨by decide, by decide⟩⟩
  cases cs with
  | nil => simp at hl
  | cons c cr =>
  have c0 : 0 ≤ c := hc c List.mem_cons_self
  simp only [List.length_cons] at hl
  refine ⟨_, rfl, _, _, _, _, rfl, rfl, hC, atI_nat (j := 0) rfl, ?_⟩
  refine ⟨_, rfl, _, rfl, by show 4 ≤ sizeLine; decide, fun M0 nM => ?_⟩
  obtain ⟨more, em, _⟩ := atMem (xs := [1, -1, 2, c]) (i := c / 7 % 4) (by omega) (by show c / 7 % 4 < ((4 : Nat) : Int); omega)
  have s1 : Same H (upd H M0 (.lst ([1, -1, 2, c].map V.int))) := sameNew nM
  refine ⟨_, rfl, _, _, rfl, rfl, (dv _).1, _, _, rfl, rfl, (show (0 : Int) < 4 by decide), _, _, _, _, rfl, rfl, .of upd_same, em, ?_⟩
  have eM : upd H M0 (.lst [.int 1, .int (-1), .int 2, .int c]) = upd H M0 (.lst ([1, -1, 2, c].map V.int)) := rfl
  rw [eM]
  generalize upd H M0 (.lst ([1, -1, 2, c].map V.int)) = H1 at *
  clear eM nM
  have ht1 := trTS (tsOf s1) ht
  have hC1 := Same.seq s1 hC
  cases ht1 with
  | @sum ta n h =>
    refine ⟨_, rfl, _, _, _, _, rfl, rfl, h, atI_nat (j := 0) rfl, rfl, _, rfl, ?_⟩
    rw [decide_eq_true rfl]
    refine iteT ?_
    refine ⟨_, rfl, _, _, _, _, rfl, rfl, h, atI_nat (j := 1) rfl, _, rfl, _, _, rfl, rfl, by show 2 ≤ sizeLine; decide, fun T1 nT1 => ⟨_, rfl, by show 2 ≤ sizeLine; decide, fun T2 nT2 => ?_⟩⟩
    have sT1 := sameNew (o := .tup [.str "sum", .int (n + more)]) nT1
    have sT2 := sameNew (o := .tup [.str "sum", .int (-1)]) nT2
    refine ⟨_, rfl, _, _, rfl, rfl, (show (0 : Int) < 3 by decide), _, rfl, _, _, rfl, rfl, (dv _).2.2, _, _, rfl, rfl, (show (0 : Int) < 9 by decide), _, rfl, _, rfl, by show 5 ≤ sizeLine; decide, fun T3 nT3 => ⟨by show 3 ≤ sizeLine; decide, fun L nL => ?_⟩⟩
    have sT3 := sameNew (o := .tup [.str "cut", .int (c % 3), .int (c / 3 % 9), .ref ta, .ref ta]) nT3
    have sL := sameNew (o := .lst [.ref T1, .ref T2, .ref T3]) nL
    have s3 := Same.trans sT3 sL
    have s2 := Same.trans sT2 s3
    have sA := Same.trans sT1 s2
    have hself : TrIn K (upd (upd (upd (upd H1 T1 (.tup [.str "sum", .int (n + more)])) T2 (.tup [.str "sum", .int (-1)])) T3 (.tup [.str "cut", .int (c % 3), .int (c / 3 % 9), .ref ta, .ref ta])) L (.lst [.ref T1, .ref T2, .ref T3])) (.ref ta) (.sum n) := .sum (tupS sA h)
    obtain ⟨v', t', ev, hv, hd⟩ : ∃ v' t', atI [V.ref T1, .ref T2, .ref T3] (c / 28 % 3) = some v' ∧ TrIn K (upd (upd (upd (upd H1 T1 (.tup [.str "sum", .int (n + more)])) T2 (.tup [.str "sum", .int (-1)])) T3 (.tup [.str "cut", .int (c % 3), .int (c / 3 % 9), .ref ta, .ref ta])) L (.lst [.ref T1, .ref T2, .ref T3])) v' t' ∧ t'.deep ≤ (Tr.sum n).deep + 1 := by
      obtain ⟨j, ej⟩ : ∃ j : Nat, c / 28 % 3 = (j : Int) := ⟨(c / 28 % 3).toNat, by omega⟩
      rw [ej]
      rcases (show j = 0 ∨ j = 1 ∨ j = 2 by omega) with rfl | rfl | rfl
      · exact ⟨_, .sum (n + more), rfl, .sum (tupS s2 (.of upd_same)), by simp [Tr.deep]⟩
      · exact ⟨_, .sum (-1), rfl, .sum (tupS s3 (.of upd_same)), by simp [Tr.deep]⟩
      · exact ⟨_, .cut (c % 3) (c / 3 % 9) (.sum n) (.sum n), rfl, .cut (tupS sL (.of upd_same)) hself hself, by simp [Tr.deep]⟩
    refine ⟨_, rfl, _, _, rfl, rfl, (dv _).2.1, _, _, rfl, rfl, (show (0 : Int) < 3 by decide), _, _, _, _, rfl, rfl, .of upd_same, ev, ?_⟩
    exact q _ v' t' (Same.trans s1 sA) hv hd
  | @cut ta n b v1 v2 t1 t2 h h1 h2 =>
    simp only [Tr.deep] at q
    refine ⟨_, rfl, _, _, _, _, rfl, rfl, h, atI_nat (j := 0) rfl, rfl, _, rfl, ?_⟩
    rw [decide_eq_false (fun e => cutK (V.str.inj e))]
    refine iteF ?_
    refine ⟨_, rfl, _, _, rfl, rfl, (show (0 : Int) < 7 by decide), ?_⟩
    refine ⟨fun σ' H' => σ' = [some (.ref ta), some (.ref ca), some (.int c), some (.int more), some (.int (c % 7))] ∧ Same H1 H', ?_, ?_⟩
    · refine ⟨_, rfl, _, _, rfl, rfl, _, rfl, ?_⟩
      refine yesDec (fun _ => ?_) (fun _ => ⟨rfl, Same.refl _⟩)
      refine ⟨_, rfl, _, _, rfl, .inl hC1, _, _, rfl, rfl, _, rfl, ?_⟩
      refine yesDec (fun cl => ?_) (fun _ => ⟨rfl, Same.refl _⟩)
      simp at cl
      refine ⟨_, rfl, _, rfl, slUse h fun r3 H3 s3 h3 => ?_⟩
      rw [show (3 : Int) = ((3 : Nat) : Int) from rfl, cutTake] at h3
      refine ⟨_, rfl, _, _, _, _, rfl, rfl, tupS s3 h, atI_nat (j := 3) rfl, _, rfl, _, rfl, _, _, rfl, Same.seq s3 hC1, fun X nX => ?_⟩
      rw [show (1 : Int) = ((1 : Nat) : Int) from rfl, cutDrop]
      have sX := sameNew (o := .lst (((c :: cr).map V.int).drop 1)) nX
      have s3X := Same.trans s3 sX
      refine ⟨v1, X, t1, cr, rfl, trTS (tsOf s3X) h1, .of (by rw [upd_same]; rfl), by omega, by omega, by omega, fun z hz => hc z (List.mem_cons_of_mem _ hz), fun H4 v' t' s4 hv' hd' => ?_⟩
      have s14 := Same.trans s3X s4
      refine ⟨_, rfl, _, _, _, _, rfl, rfl, tupS s14 h, atI_nat (j := 4) rfl, by show 2 ≤ sizeLine; decide, fun T nT => ?_⟩
      have sT := sameNew (o := .tup [v', v2]) nT
      refine catUse (tupS (Same.trans (Same.trans sX s4) sT) h3) (.of upd_same) (by simp) fun r5 H5 s5 h5 => ?_
      have sE := Same.trans sT s5
      refine q H5 (.ref r5) (.cut n b t' t2) (Same.trans s1 (Same.trans s14 sE)) (.cut h5 (trTS (tsOf sE) hv') (trTS (tsOf (Same.trans s14 sE)) h2)) ?_
      simp only [Tr.deep]
      omega
    rintro σ' H2 ⟨rfl, s2⟩
    refine ⟨fun σ' H' => σ' = [some (.ref ta), some (.ref ca), some (.int c), some (.int more), some (.int (c % 7))] ∧ Same H1 H', ?_, ?_⟩
    · refine ⟨_, rfl, _, _, rfl, rfl, _, rfl, ?_⟩
      refine yesDec (fun _ => ?_) (fun _ => ⟨rfl, s2⟩)
      refine ⟨_, rfl, _, _, rfl, .inl (Same.seq s2 hC1), _, _, rfl, rfl, _, rfl, ?_⟩
      refine yesDec (fun cl => ?_) (fun _ => ⟨rfl, s2⟩)
      simp at cl
      refine ⟨_, rfl, _, rfl, slUse (tupS s2 h) fun r3 H3 s3 h3 => ?_⟩
      rw [show (4 : Int) = ((4 : Nat) : Int) from rfl, cutTake] at h3
      have s23 := Same.trans s2 s3
      refine ⟨_, rfl, _, _, _, _, rfl, rfl, tupS s23 h, atI_nat (j := 4) rfl, _, rfl, _, rfl, _, _, rfl, Same.seq s23 hC1, fun X nX => ?_⟩
      rw [show (1 : Int) = ((1 : Nat) : Int) from rfl, cutDrop]
      have sX := sameNew (o := .lst (((c :: cr).map V.int).drop 1)) nX
      have s3X := Same.trans s23 sX
      refine ⟨v2, X, t2, cr, rfl, trTS (tsOf s3X) h2, .of (by rw [upd_same]; rfl), by omega, by omega, by omega, fun z hz => hc z (List.mem_cons_of_mem _ hz), fun H4 v' t' s4 hv' hd' => ?_⟩
      have s14 := Same.trans s3X s4
      refine ⟨by show 1 ≤ sizeLine; decide, fun T nT => ?_⟩
      have sT := sameNew (o := .tup [v']) nT
      refine catUse (tupS (Same.trans (Same.trans sX s4) sT) h3) (.of upd_same) (by simp) fun r5 H5 s5 h5 => ?_
      have sE := Same.trans sT s5
      refine q H5 (.ref r5) (.cut n b t1 t') (Same.trans s1 (Same.trans s14 sE)) (.cut h5 (trTS (tsOf (Same.trans s14 sE)) h1) (trTS (tsOf sE) hv')) ?_
      simp only [Tr.deep]
      omega
    rintro σ' H3 ⟨rfl, s3⟩
    have h3 := tupS s3 h
    have s13 := Same.trans s1 s3
    refine ⟨_, rfl, rfl, _, rfl, ?_⟩
    refine yesDec (fun _ => ?_) (fun _ => ?_)
    · refine ⟨_, rfl, _, _, _, _, rfl, rfl, h3, atI_nat (j := 1) rfl, _, rfl, _, _, rfl, rfl, by show 2 ≤ sizeLine; decide, fun T nT => ?_⟩
      have sT := sameNew (o := .tup [.str "cut", .int (n + more)]) nT
      refine ⟨_, rfl, _, rfl, slUseN (tupS sT h3) fun r4 H4 s4 h4 => ?_⟩
      rw [show (2 : Int) = ((2 : Nat) : Int) from rfl, cutDrop] at h4
      refine catUse (tupS s4 (.of upd_same)) h4 (by simp) fun r5 H5 s5 h5 => ?_
      have sE := Same.trans sT (Same.trans s4 s5)
      refine q H5 (.ref r5) (.cut (n + more) b t1 t2) (Same.trans s13 sE) (.cut h5 (trTS (tsOf (Same.trans s3 sE)) h1) (trTS (tsOf (Same.trans s3 sE)) h2)) ?_
      simp only [Tr.deep]
      omega
    refine ⟨_, rfl, rfl, _, rfl, ?_⟩
    refine yesDec (fun _ => ?_) (fun _ => ?_)
    · refine ⟨_, rfl, _, _, _, _, rfl, rfl, h3, atI_nat (j := 1) rfl, _, rfl, _, _, _, _, rfl, rfl, h3, atI_nat (j := 2) rfl, _, rfl, _, _, rfl, rfl, by show 3 ≤ sizeLine; decide, fun T nT => ?_⟩
      have sT := sameNew (o := .tup [.str "cut", .int n, .int (b + more)]) nT
      refine ⟨_, rfl, _, rfl, slUseN (tupS sT h3) fun r4 H4 s4 h4 => ?_⟩
      rw [show (3 : Int) = ((3 : Nat) : Int) from rfl, cutDrop] at h4
      refine catUse (tupS s4 (.of upd_same)) h4 (by simp) fun r5 H5 s5 h5 => ?_
      have sE := Same.trans sT (Same.trans s4 s5)
      refine q H5 (.ref r5) (.cut n (b + more) t1 t2) (Same.trans s13 sE) (.cut h5 (trTS (tsOf (Same.trans s3 sE)) h1) (trTS (tsOf (Same.trans s3 sE)) h2)) ?_
      simp only [Tr.deep]
      omega
    refine ⟨_, rfl, _, _, _, _, rfl, rfl, h3, atI_nat (j := 1) rfl, _, rfl, _, _, _, _, rfl, rfl, h3, atI_nat (j := 2) rfl, _, rfl, _, _, _, _, rfl, rfl, h3, atI_nat (j := 4) rfl, _, rfl, _, _, _, _, rfl, rfl, h3, atI_nat (j := 3) rfl, by show 5 ≤ sizeLine; decide, fun T nT => ?_⟩
    have sT := sameNew (o := .tup [.str "cut", .int n, .int b, v2, v1]) nT
    refine ⟨_, rfl, _, _, _, _, rfl, rfl, tupS sT h3, atI_nat (j := 3) rfl, by show 2 ≤ sizeLine; decide, fun L nL => ?_⟩
    have sL := sameNew (o := .lst [.ref T, v1]) nL
    have sA := Same.trans sT sL
    have g1 := trTS (tsOf (Same.trans s3 sA)) h1
    have g2 := trTS (tsOf (Same.trans s3 sA)) h2
    obtain ⟨v', t', ev, hv, hd⟩ : ∃ v' t', atI [V.ref T, v1] (c / 28 % 2) = some v' ∧ TrIn K (upd (upd H3 T (.tup [.str "cut", .int n, .int b, v2, v1])) L (.lst [.ref T, v1])) v' t' ∧ t'.deep ≤ max t1.deep t2.deep + 1 + 1 := by
      obtain ⟨j, ej⟩ : ∃ j : Nat, c / 28 % 2 = (j : Int) := ⟨(c / 28 % 2).toNat, by omega⟩
      rw [ej]
      rcases (show j = 0 ∨ j = 1 by omega) with rfl | rfl
      · refine ⟨_, .cut n b t2 t1, rfl, .cut (tupS sL (.of upd_same)) g2 g1, ?_⟩
        simp only [Tr.deep]
        omega
      · exact ⟨_, t1, rfl, g1, by omega⟩
    refine ⟨_, rfl, _, _, rfl, rfl, (dv _).2.1, _, _, rfl, rfl, (show (0 : Int) < 2 by decide), _, _, _, _, rfl, rfl, .of upd_same, ev, ?_⟩
    exact q _ v' t' (Same.trans s13 sA) hv hd

end

end LW

namespace LW
open PySem PySem.Spec PyProof.Rows L2
local macro_rules | `(tactic| walk_at "go1") => `(tactic| first
  | refine ⟨_, rfl, ?_⟩
  | refine ⟨_, _, rfl, rfl, ?_⟩
  | refine ⟨show (0 : Int) < _ from by omega, ?_⟩
  | refine ⟨show CMul _ _ from by first | exact .inl ⟨by omega, by omega⟩ | exact .inr ⟨by omega, by omega⟩, ?_⟩
  | refine ⟨show CDiv _ _ from ⟨by omega, by omega⟩, ?_⟩)
local macro_rules | `(tactic| walk_at "go") => `(tactic| repeat walk_at "go1")

section
variable {P : Program} {w : World} {K : PySem.W.Frag} {mg : Str → Option Value} {base : Heap}

/-- what the program's is_tree is to tell -/
def spTreeP (K : PySem.W.Frag) : Sp := fun vs H Q _ => ∃ (a b : Addr) (tv : V) (st : List Iv) (us : List V) (ss : List Sm) (t : Tr), vs = [.ref a, .ref b, tv] ∧ StrIn K H a st ∧ SqL K H b us ∧ A2 (SumIn K H) us ss ∧ StrW st ∧ (∀ s ∈ ss, SumW st.length s) ∧ ss.length ≤ 6 ∧ TrIn K H tv t ∧ t.deep ≤ 50 ∧ H a ≠ none ∧ ∀ H', Same H H' → Q (.bl (isT ss st t)) H'
def dIv (p : Iv) : PyData := .tuple [.int p.1, .int p.2]
theorem dpIvs {K : PySem.W.Frag} {H : Hp} : ∀ {vs : List V} {st : List Iv}, A2 (PrI K H) vs st → DpAll K H vs (st.map dIv)
  | _, _, .nil => .nil
  | _, _, .cons ⟨t, e, h⟩ r => by
    subst e
    exact .cons (.tup h (.cons (.int _) (.cons (.int _) .nil))) (dpIvs r)
theorem lyIvs (st : List Iv) : Ly 4 (.list (st.map dIv)) := (lyLst (n := 2) (lyAll fun d hd => by
  obtain ⟨p, _, rfl⟩ := List.mem_map.mp hd
  exact lyTup (lyCons (lyInt _) (lyCons (lyInt _) (lyNil 1))))).up (by decide)
theorem dpSms {K : PySem.W.Frag} {H : Hp} : ∀ {vs : List V} {ss : List Sm}, A2 (SumIn K H) vs ss → DpAll K H vs (ss.map dS)
  | _, _, .nil => .nil
  | _, _, .cons h r => .cons (dpSum h) (dpSms r)
theorem lySms (ss : List Sm) : Ly 4 (.list (ss.map dS)) := lyLst (lySums ss)

end

end LW

namespace LW
open PySem PySem.Spec PyProof.Rows L2
local macro_rules | `(tactic| walk_at "go1") => `(tactic| first
  | refine ⟨_, rfl, ?_⟩
  | refine ⟨_, _, rfl, rfl, ?_⟩
  | refine ⟨show (0 : Int) < _ from by omega, ?_⟩
  | refine ⟨show CMul _ _ from by first | exact .inl ⟨by omega, by omega⟩ | exact .inr ⟨by omega, by omega⟩, ?_⟩
  | refine ⟨show CDiv _ _ from ⟨by omega, by omega⟩, ?_⟩)
local macro_rules | `(tactic| walk_at "go") => `(tactic| repeat walk_at "go1")

section
variable {P : Program} {w : World} {K : PySem.W.Frag} {mg : Str → Option Value} {base : Heap}

abbrev s__law_trees_right : Stmt := topS 26
theorem sc__law_trees_right : FnScope ["_law_stretch_here", "_law_some", "_law_tree", "_law_script", "_law_one", "_law_handed", "_law_found", "_law_k"] ["_law_stretch_here", "_law_some", "_law_tree", "_law_script"] (defScope s__law_trees_right) := ⟨rfl, rfl, rfl, by decide +kernel, rfl, by decide +kernel, by decide +kernel⟩

def spTR (K : PySem.W.Frag) : Sp := fun vs H Q _ => ∃ (a b sc : Addr) (tv : V) (st : List Iv) (us : List V) (ss : List Sm) (t : Tr) (ns : List Int), vs = [.ref a, .ref b, tv, .ref sc] ∧ StrIn K H a st ∧ SqL K H b us ∧ A2 (SumIn K H) us ss ∧ StrW st ∧ (∀ s ∈ ss, SumW st.length s) ∧ ss.length ≤ 6 ∧ TrIn K H tv t ∧ t.deep ≤ 40 ∧ SqL K H sc (ns.map V.int) ∧ ns.length ≤ 63 ∧ ∀ H', Same H H' → Q (.bl true) H'
theorem ok__law_trees_right {f : Addr} {fd : FuncData} {k : Nat} (F : Fun K "_law_trees_right" "_law_trees_right" s__law_trees_right f fd) (B : Bl mg) (c__law_at : C8.Cal P w K mg base k "_law_at" (spAt K) []) (c__law_changed : C8.Cal P w K mg base k "_law_changed" (spCh K 5) []) (c_is_tree : C8.Cal P w K mg base k "is_tree" (spTreeP K) [])
    (c__law_is_tree : C8.Cal P w K mg base k "_law_is_tree" (spIsT K 50) []) : FnOk P w K mg base CX0 (k + 1) f fd ["_law_stretch_here", "_law_some", "_law_tree", "_law_script"] (spTR K) := by
  refine F.ok sc__law_trees_right (fun vs H Q E h => ?_) (fun cdv A outer s H vs Q E hr h => ?_)
  · obtain ⟨a, b, sc, tv, st, us, ss, t, ns, rfl, _⟩ := h
    rfl
  obtain ⟨a, b, sc, tv, st, us, ss, t, ns, rfl, hS, hU, hUs, hst, hsw, h6, ht, hd, hN, h63, q⟩ := h
  refine ⟨_, (pss_cons (ps_for PassesOwn.never rfl (kList_ (K := K) rfl (pe_lst (pa_cons (pv 2) (pa_cons (C8.pe_c c__law_changed hr (Nat.le_refl _) (by rfl) (pa_cons (pv 2) (pa_cons (pe_lc (own := [("_law_k", 7)]) rfl sc__law_trees_right.nd (pi_range1 (by rfl) B.range (pa_cons pe_int pa_nil)) (blkOk_by (own := [("_law_k", 7)]) (N := ["_law_stretch_here", "_law_some", "_law_tree", "_law_script", "_law_one", "_law_handed", "_law_found", "_law_k"]) (sc := defScope s__law_trees_right) (by decide +kernel)) (fun _ _ _ _ _ => (pgN (i := 7) sc__law_trees_right.nd rfl (.inl rfl) (.inr rfl))) (fun _ _ _ _ _ => pts_nil) (fun _ _ _ _ _ => (C8.pe_c c__law_at hr (Nat.le_refl _) (by rfl) (pa_cons (pv 3) (pa_cons (pe_op op_add pe_int (pv 7)) pa_nil))))) pa_nil))) (pa_cons (pv 2) pa_nil))))) (pg_name (i := 4) sc__law_trees_right.nd rfl (.inl rfl))
      (pss_cons (ps_set (i := 5) sc__law_trees_right.nd rfl (.inl rfl) (pe_lst (pa_cons (pe_callTy (kList (K := K) rfl) (by rfl) B.list (by decide +kernel) (pa_cons (pv 0) pa_nil)) (pa_cons (pe_callTy (kList (K := K) rfl) (by rfl) B.list (by decide +kernel) (pa_cons (pv 1) pa_nil)) pa_nil))))
      (pss_cons (ps_set (i := 6) sc__law_trees_right.nd rfl (.inl rfl) (C8.pe_c c_is_tree hr (Nat.le_refl _) (by rfl) (pa_cons (pe_ix (kIxL (K := K) rfl) (pv 5) pe_int (fun _ _ => rfl)) (pa_cons (pe_ix (kIxL (K := K) rfl) (pv 5) pe_int (fun _ _ => rfl)) (pa_cons (pv 4) pa_nil)))))
      (pss_one (ps_if (PW.pt (pw_or (pt_not (pt_val (pe_callB (kIsi (K := K) rfl) (by rfl) B.isinstance (by decide +kernel) (pa_cons (pv 6) (pa_cons (pe_bltn (v := .ty "bool") (by rfl) B.bool (by decide +kernel) rfl) pa_nil))))) (pw_or (pt_cmpR op_ne (pv 6) (C8.pe_c c__law_is_tree hr (Nat.le_refl _) (by rfl) (pa_cons (pv 0) (pa_cons (pv 1) (pa_cons (pv 4) pa_nil)))) (nomark _)) (pw_or1 (pt_cmpR (kNeD (K := K) rfl hr.units) (pv 5) (pe_lst (pa_cons (pv 0) (pa_cons (pv 1) pa_nil))) (nomark _))))))
        (pss_one (ps_ret pe_bl))
        pss_nil)))))
    (pss_one (ps_ret pe_bl))), ?_⟩
  have szl : (100000 : Nat) ≤ sizeLine := by decide
  refine ⟨_, rfl, _, rfl, 5, rfl, by decide, by decide, fun D nD => ?_⟩
  refine lc_it walk_range (Made H D (RP fun _ z => 0 ≤ z)) (made0 nD) (fun _ _ _ _ => trivial) (fun i x H1 H2 hi p y => ?_) (fun H1 p => ?_)
  · obtain ⟨rfl, rfl⟩ := y
    have hi2 : i < 5 := hi
    refine ⟨rfl, ?_⟩
    refine lcYes ?_
    exact ⟨_, rfl, _, rfl, _, _, rfl, rfl, sc, ns, _, rfl, Same.seq p.same hN, h63, by omega, by omega, fun z z0 _ => p.push nD (stRP _) (by omega) (Same.refl _) ⟨_, rfl, z0⟩⟩
  obtain ⟨cs, lc, eD, s1, hc⟩ := madeRP p
  have lc5 : cs.length = 5 := lc
  refine ⟨tv, D, t, cs, rfl, trTS (tsOf s1) ht, .of eD, lc5, by decide, by decide, fun z hz => ?_, fun H2 v2 t2 s2 ht2 hd2 => ?_⟩
  · obtain ⟨j, hj⟩ := List.mem_iff_getElem?.mp hz
    exact hc j z hj
  have s02 := Same.trans s1 s2
  refine ⟨_, rfl, by show 3 ≤ sizeLine; decide, fun L nL => ?_⟩
  have sL := sameNew (o := .lst [tv, v2, tv]) nL
  have s0L := Same.trans s02 sL
  refine ⟨_, rfl, ⟨_, .of upd_same⟩, ?_⟩
  have hL : upd H2 L (.lst [tv, v2, tv]) L = some (.lst [tv, v2, tv]) := upd_same
  have hT2 := trTS (tsOf sL) ht2
  generalize upd H2 L (.lst [tv, v2, tv]) = H3 at *
  have trees : ∀ {H' : Hp} (x : V) (i : Nat), Same H3 H' → [tv, v2, tv][i]? = some x → ∃ u, TrIn K H' x u ∧ u.deep ≤ 50 := fun {H'} x i e ex => by
    match i, ex with
    | 0, ex => cases ex; exact ⟨t, trTS (tsOf (Same.trans s0L e)) ht, by omega⟩
    | 1, ex => cases ex; exact ⟨t2, trTS (tsOf e) hT2, by omega⟩
    | 2, ex => cases ex; exact ⟨t, trTS (tsOf (Same.trans s0L e)) ht, by omega⟩
  have sums : ∀ {H' : Hp}, Same H H' → A2 (SumIn K H') us ss := fun e => A2.map (B' := ss) (fun _ _ _ r => SumIn.mono e r) (fun _ m => m) hUs
  obtain ⟨ws, hSs, hSw⟩ := hS
  refine for_it (walk_list (xs := [tv, v2, tv])) (fun i σ H' => Same H3 H' ∧ ∃ (y4 y5 y6 : Option V), σ = [some (.ref a), some (.ref b), some tv, some (.ref sc), y4, y5, y6, none]) ⟨Same.refl _, none, none, none, rfl⟩ (fun i σ H' _ p => .of (p.1 _ _ hL)) (fun i x σ H' H0' hi p y => ?_) (fun σ H' p => ?_)
  · obtain ⟨sm, y4, y5, y6, rfl⟩ := p
    obtain ⟨rfl, ex⟩ := y
    obtain ⟨u, hu, hud⟩ := trees x i sm ex
    have s0m := Same.trans s0L sm
    refine ⟨_, rfl, _, _, rfl, .inl (Same.seq s0m hSs), fun A1 nA => ⟨_, rfl, _, _, rfl, .inl (Same.seq (Same.trans s0m (sameNew nA)) hU), fun B1 nB => ⟨by show 2 ≤ sizeLine; decide, fun Hd nH => ?_⟩⟩⟩
    have sB := sameNew (o := .lst [.ref A1, .ref B1]) nH
    have sA := Same.trans (sameNew (o := .lst us) nB) sB
    have sN := Same.trans (sameNew (o := .lst ws) nA) sA
    have s0N := Same.trans s0m sN
    refine ⟨_, rfl, _, _, _, _, rfl, rfl, .of upd_same, atI_nat (j := 0) rfl, _, rfl, _, _, _, _, rfl, rfl, .of upd_same, atI_nat (j := 1) rfl, _, rfl, A1, B1, x, st, us, ss, u, rfl, ⟨ws, .of (sA _ _ upd_same), priTS (tsOf s0N) hSw⟩, .of (sB _ _ upd_same), sums s0N, hst, hsw, h6, trTS (tsOf sN) hu, by omega, (by rw [sA _ _ upd_same]; simp), fun H5 s5 => ?_⟩
    have s05 := Same.trans s0N s5
    refine ⟨_, rfl, _, _, _, _, true, rfl, .ty _, .base (.bl _), kit_ty (by decide +kernel), _, rfl, ?_⟩
    refine iteF ?_
    refine ⟨_, rfl, _, rfl, _, rfl, _, rfl, a, b, x, st, us, ss, u, rfl, ⟨ws, Same.seq s05 hSs, priTS (tsOf s05) hSw⟩, Same.seq s05 hU, sums s05, fun s hs => ⟨(hsw s hs).1, (hsw s hs).2.1⟩, by have := hst.2.1; omega, trTS (tsOf (Same.trans sN s5)) hu, hud, fun H6 s6 => ?_⟩
    refine ⟨rfl, _, rfl, ?_⟩
    refine notDec (fun c => absurd rfl c) (fun _ => ?_)
    have s56 := Same.trans s5 s6
    have s06 := Same.trans s0N s56
    refine ⟨_, rfl, _, rfl, _, rfl, by show 2 ≤ sizeLine; decide, fun W nW => ?_⟩
    have sW := sameNew (o := .lst [.ref a, .ref b]) nW
    have s6W := Same.trans s56 sW
    have s0W := Same.trans s0N s6W
    have lyA : Ly 5 (.list [.list (st.map dIv), .list (ss.map dS)]) := lyLst (lyCons (lyIvs st) (lyCons (lySms ss) (lyNil 4)))
    refine ⟨.list [.list (st.map dIv), .list (ss.map dS)], .list [.list (st.map dIv), .list (ss.map dS)],
      .lst (.of (s6W _ _ upd_same)) (.cons (.lst (.of (s6W _ _ (sA _ _ upd_same))) (dpIvs (priTS (tsOf s0W) hSw))) (.cons (.lst (.of (s6W _ _ (sB _ _ upd_same))) (dpSms (sums s0W))) .nil)),
      .lst (.of upd_same) (.cons (.lst (Same.seq s0W hSs) (dpIvs (priTS (tsOf s0W) hSw))) (.cons (.lst (Same.seq s0W hU) (dpSms (sums s0W))) .nil)), lyA.shaped (by decide), lyA.shaped (by decide), _, rfl, ?_⟩
    rw [lyA.same]
    exact iteF ⟨Same.trans sm (Same.trans sN s6W), _, _, _, rfl⟩
  · obtain ⟨sm, y4, y5, y6, rfl⟩ := p
    exact q _ (Same.trans s0L sm)

end

end LW

namespace LW
open PySem PySem.Spec PyProof.Rows L2
local macro_rules | `(tactic| walk_at "go1") => `(tactic| first
  | refine ⟨_, rfl, ?_⟩
  | refine ⟨_, _, rfl, rfl, ?_⟩
  | refine ⟨show (0 : Int) < _ from by omega, ?_⟩
  | refine ⟨show CMul _ _ from by first | exact .inl ⟨by omega, by omega⟩ | exact .inr ⟨by omega, by omega⟩, ?_⟩
  | refine ⟨show CDiv _ _ from ⟨by omega, by omega⟩, ?_⟩)
local macro_rules | `(tactic| walk_at "go") => `(tactic| repeat walk_at "go1")

section
variable {P : Program} {w : World} {K : PySem.W.Frag} {mg : Str → Option Value} {base : Heap}

theorem roomU1 {k : Nat} {A : Around} (r : Room k A) : A.units + 65 < cLine := by have := r.un; omega
theorem kInD {X : Cx} {K : PySem.W.Frag} (h : X.K = K) (hu : X.A.units + 65 < cLine) : OpR X (compareOp .In) (rInD K) := by subst h; exact op_inD hu
theorem kRevL {X : Cx} {K : PySem.W.Frag} {e : Expr} {te : TE} {k : Nat} {p1 p2 p3 pos : Pos} (h : X.K = K) (he : PE X e te) : PE X (.Subscript e (.Slice none none (some (.UnaryOp .USub (.Constant (.int 1) k p1) p2)) p3) pos) (tRevL K te) := by subst h; exact pe_revL he
def spLaw (K : PySem.W.Frag) : Sp := fun vs H Q _ => ∃ (a : Addr) (ns : List Int), vs = [.ref a] ∧ SqL K H a (ns.map V.int) ∧ ns.length ≤ 63 ∧ ∀ H', Q (.bl true) H'
/-- what the program's tried is to tell: a tree, or a filling by which all hold -/
def Told (K : PySem.W.Frag) (H0 H : Hp) (tv fv : V) (st : List Iv) (ss : List Sm) : Prop :=
  (fv = .non ∧ ∃ t, TrIn K H tv t ∧ isT ss st t = true) ∨ (tv = .non ∧ ∃ (fa : Addr) (fs : List Int), fv = .ref fa ∧ H0 fa = none ∧ H fa = some (.lst (fs.map V.int)) ∧ fs ∈ allIn st ∧ holds ss fs = true)
def spTriedP (K : PySem.W.Frag) : Sp := fun vs H Q _ => ∃ (a b : Addr) (ws us : List V) (st : List Iv) (ss : List Sm), vs = [.ref a, .ref b] ∧ H a = some (.lst ws) ∧ A2 (PrI K H) ws st ∧ H b = some (.lst us) ∧ A2 (SumIn K H) us ss ∧ StrW st ∧ (∀ s ∈ ss, SumW st.length s) ∧ 1 ≤ ss.length ∧ ss.length ≤ 6 ∧
  ∀ (H' : Hp) (r : Addr) (tv fv : V), Same H H' → SqT K H' r [tv, fv] → Told K H H' tv fv st ss → Q (.ref r) H'
theorem a2Rev {α β : Type} {R : α → β → Prop} {a : List α} {b : List β} (h : A2 R a b) : A2 R a.reverse b.reverse := by
  induction h with
  | nil => exact .nil
  | cons h t ih =>
    rw [List.reverse_cons, List.reverse_cons]
    exact ih.app (.cons h .nil)
theorem strRev {st : List Iv} (h : StrW st) : StrW st.reverse := by
  obtain ⟨h1, h2, h3, h4, h5⟩ := h
  refine ⟨by simpa using h1, by simpa using h2, fun p hp => h3 p (by simpa using hp), fun h p hp => h4 (by simpa using h) p (by simpa using hp), fun h p hp => h5 (by simpa using h) p (by simpa using hp)⟩
theorem goodAny {gs : List (List Int)} {fs : List Int} (h : fs ∈ gs) : ((gs.map fun f => PyData.list (dI f)).any fun z => PyData.eqv z (.list (dI fs))) = true := by
  rw [List.any_map, List.any_eq_true]
  exact ⟨fs, h, (lyLst (lyInts fs)).same⟩
theorem dpFs {K : PySem.W.Frag} {H : Hp} : ∀ {vs : List V} {ff : List (List Int)}, A2 (FIn K H) vs ff → DpAll K H vs (ff.map fun f => PyData.list (dI f))
  | _, _, .nil => .nil
  | _, _, .cons ⟨a, e, h⟩ r => by
    subst e
    exact .cons (.lst (.of h) (dpInts _)) (dpFs r)
theorem lyFs (ff : List (List Int)) : Ly 3 (.list (ff.map fun f => PyData.list (dI f))) := lyLst (lyAll fun d hd => by
  obtain ⟨f, _, rfl⟩ := List.mem_map.mp hd
  exact lyLst (lyInts f))
theorem eqvNilF (ff : List (List Int)) : PyData.eqv (.list (ff.map fun f => PyData.list (dI f))) (.list []) = decide (ff = []) := by
  cases ff with
  | nil => simp [PyData.eqv, PyData.eqvAll]
  | cons w r => simp [PyData.eqv, PyData.eqvAll]
/-- all but two as they were -/
def But2 (A B : Addr) (H H' : Hp) : Prop := ∀ b o, b ≠ A → b ≠ B → H b = some o → H' b = some o
theorem But2.trans {A B : Addr} {H H1 H2 : Hp} (a : But2 A B H H1) (b : But2 A B H1 H2) : But2 A B H H2 := fun c o n m h => b c o n m (a c o n m h)
theorem but2Of {A B : Addr} {H H' : Hp} (e : Same H H') : But2 A B H H' := fun b o _ _ h => e b o h
theorem but2TS {A B : Addr} {H H' : Hp} {xs ys : List V} (e : But2 A B H H') (ha : H A = some (.lst xs)) (hb : H B = some (.lst ys)) : TS H H' := fun c =>
  ⟨fun zs h => e _ _ (fun z => by rw [z, ha] at h; cases h) (fun z => by rw [z, hb] at h; cases h) h, fun o u h => e _ _ (fun z => by rw [z, ha] at h; cases h) (fun z => by rw [z, hb] at h; cases h) h⟩

end

end LW

namespace LW
open PySem PySem.Spec PyProof.Rows L2
local macro_rules | `(tactic| walk_at "go1") => `(tactic| first
  | refine ⟨_, rfl, ?_⟩
  | refine ⟨_, _, rfl, rfl, ?_⟩
  | refine ⟨show (0 : Int) < _ from by omega, ?_⟩
  | refine ⟨show CMul _ _ from by first | exact .inl ⟨by omega, by omega⟩ | exact .inr ⟨by omega, by omega⟩, ?_⟩
  | refine ⟨show CDiv _ _ from ⟨by omega, by omega⟩, ?_⟩)
local macro_rules | `(tactic| walk_at "go") => `(tactic| repeat walk_at "go1")

section
variable {P : Program} {w : World} {K : PySem.W.Frag} {mg : Str → Option Value} {base : Heap}

abbrev s__law_unit : Stmt := topS 14
theorem sc__law_unit : FnScope ["_law_many", "_law_box", "_law_number", "_law_more", "_law_numbers"] ["_law_many", "_law_box", "_law_number", "_law_more"] (defScope s__law_unit) := ⟨rfl, rfl, rfl, by decide +kernel, rfl, by decide +kernel, by decide +kernel⟩

def unitOf (many : Nat) (box : Nat) (number more : Int) : Sm := ((List.replicate many 0).set box number, more)
def spUnit (K : PySem.W.Frag) : Sp := fun vs H Q _ => ∃ (many : Nat) (bi number more : Int), vs = [.int (many : Int), .int bi, .int number, .int more] ∧ 0 ≤ bi ∧ bi < many ∧ many ≤ 3 ∧ ∀ H' v, Same H H' → SumIn K H' v (unitOf many bi.toNat number more) → Q v H'
theorem unitW {many box : Nat} {number more : Int} (h : -9 ≤ number ∧ number ≤ 9) (h' : -99 ≤ more ∧ more ≤ 99) : SumW many (unitOf many box number more) := by
  refine ⟨by simp [unitOf], fun n hn => ?_, h'.1, h'.2⟩
  rcases List.mem_or_eq_of_mem_set hn with h2 | h2
  · have := List.eq_of_mem_replicate h2
    omega
  · omega
theorem ok__law_unit {f : Addr} {fd : FuncData} {k : Nat} (F : Fun K "_law_unit" "_law_unit" s__law_unit f fd) (B : Bl mg) : FnOk P w K mg base CX0 (k + 1) f fd ["_law_many", "_law_box", "_law_number", "_law_more"] (spUnit K) := by
  refine F.ok sc__law_unit (fun vs H Q E h => ?_) (fun cdv A outer s H vs Q E hr h => ?_)
  · obtain ⟨many, bi, number, more, rfl, _⟩ := h
    rfl
  obtain ⟨many, bi, number, more, rfl, hb0, hb, hm, q⟩ := h
  refine ⟨_, (pss_cons (ps_set (i := 4) sc__law_unit.nd rfl (.inl rfl) (pe_op op_rep (pe_lst (pa_cons pe_int pa_nil)) (pv 0)))
    (pss_cons (ps_asg (pv 2) (pg_sub (pv 4) (pv 1) set_list))
    (pss_one (ps_ret (pe_tup (pa_cons (pe_callTy (kTup (K := K) rfl) (by rfl) B.tuple (by decide +kernel) (pa_cons (pv 4) pa_nil)) (pa_cons (pv 3) pa_nil))))))), ?_⟩
  have szl : (1000 : Nat) ≤ sizeLine := by decide
  refine ⟨by show 1 ≤ sizeLine; decide, fun L nL => ?_⟩
  refine ⟨_, rfl, _, _, _, rfl, rfl, upd_same, by omega, by omega, by simp; omega, fun D nD => ?_⟩
  have s1 : Same H (upd H L (.lst [.int 0])) := sameNew nL
  have nDH : H D = none := Same.free s1 nD
  have e1 : (List.replicate ((many : Int)).toNat [V.int 0]).flatten = (List.replicate many (0 : Int)).map V.int := by simp [List.map_replicate]
  rw [e1]
  refine ⟨_, rfl, _, rfl, _, rfl, D, _, _, bi.toNat, rfl, rfl, upd_same, ?_, ?_⟩
  · unfold ixN
    rw [if_pos hb0, if_pos (by simp; omega)]
  have s2 : Same H (upd (upd (upd H L (.lst [.int 0])) D (.lst ((List.replicate many (0 : Int)).map V.int))) D (.lst (((List.replicate many (0 : Int)).map V.int).set bi.toNat (.int number)))) := sameMut (Same.trans s1 (sameNew nD)) nDH
  refine ⟨_, rfl, _, _, rfl, .inl ⟨.of upd_same, fun T nT => ⟨_, rfl, by show 2 ≤ sizeLine; decide, fun U nU => ?_⟩⟩⟩
  refine q _ _ (Same.trans s2 (Same.trans (sameNew nT) (sameNew nU))) ⟨U, T, rfl, .of upd_same, tupS (sameNew nU) (.of ?_)⟩
  rw [upd_same]
  simp [unitOf, List.map_set]

abbrev s__law_word : Stmt := topS 15
theorem sc__law_word : FnScope ["_law_cell", "_law_many", "_law_way", "_law_box", "_law_more", "_law_numbers", "_law_k"] ["_law_cell", "_law_many"] (defScope s__law_word) := ⟨rfl, rfl, rfl, by decide +kernel, rfl, by decide +kernel, by decide +kernel⟩

def spWord (K : PySem.W.Frag) : Sp := fun vs H Q _ => ∃ (cell : Int) (many : Nat), vs = [.int cell, .int (many : Int)] ∧ 0 ≤ cell ∧ 1 ≤ many ∧ many ≤ 3 ∧ ∀ H' v s, Same H H' → SumIn K H' v s → SumW many s → Q v H'
theorem ok__law_word {f : Addr} {fd : FuncData} {k : Nat} (F : Fun K "_law_word" "_law_word" s__law_word f fd) (B : Bl mg) (c__law_unit : C8.Cal P w K mg base k "_law_unit" (spUnit K) []) : FnOk P w K mg base CX0 (k + 1) f fd ["_law_cell", "_law_many"] (spWord K) := by
  refine F.ok sc__law_word (fun vs H Q E h => ?_) (fun cdv A outer s H vs Q E hr h => ?_)
  · obtain ⟨cell, many, rfl, _⟩ := h
    rfl
  obtain ⟨cell, many, rfl, c0, hm1, hm, q⟩ := h
  refine ⟨_, (pss_cons (ps_set (i := 2) sc__law_word.nd rfl (.inl rfl) (pe_op op_mod (pv 0) pe_int))
    (pss_cons (ps_set (i := 3) sc__law_word.nd rfl (.inl rfl) (pe_op op_mod (pe_op op_fdiv (pv 0) pe_int) (pv 1)))
    (pss_cons (ps_set (i := 4) sc__law_word.nd rfl (.inl rfl) (pe_op op_mod (pe_op op_fdiv (pv 0) pe_int) pe_int))
    (pss_cons (ps_if (pt_cmpR op_lt (pv 2) pe_int (nomark _))
      (pss_one (ps_ret (C8.pe_c c__law_unit hr (Nat.le_refl _) (by rfl) (pa_cons (pv 1) (pa_cons (pv 3) (pa_cons pe_int (pa_cons (pe_un un_neg (pv 4)) pa_nil)))))))
      pss_nil)
    (pss_cons (ps_if (pt_cmpR op_lt (pv 2) pe_int (nomark _))
      (pss_one (ps_ret (C8.pe_c c__law_unit hr (Nat.le_refl _) (by rfl) (pa_cons (pv 1) (pa_cons (pv 3) (pa_cons (pe_un un_neg pe_int) (pa_cons (pv 4) pa_nil)))))))
      pss_nil)
    (C8.pss_cut (ps_if (PW.pt (pw_and (pt_cmpR op_eq (pv 2) pe_int (nomark _)) (pw_and1 (pt_cmpR op_gt (pv 1) pe_int (nomark _)))))
      (pss_cons (ps_set (i := 5) sc__law_word.nd rfl (.inl rfl) (pe_callTy (kList (K := K) rfl) (by rfl) B.list (by decide +kernel) (pa_cons (pe_ix (kIxT (K := K) rfl) (C8.pe_c c__law_unit hr (Nat.le_refl _) (by rfl) (pa_cons (pv 1) (pa_cons (pv 3) (pa_cons pe_int (pa_cons pe_int pa_nil))))) pe_int (fun _ _ => rfl)) pa_nil)))
      (pss_cons (ps_asg (pe_un un_neg pe_int) (pg_sub (pv 5) (pe_op op_mod (pe_op op_add (pv 3) pe_int) (pv 1)) set_list))
      (pss_one (ps_ret (pe_tup (pa_cons (pe_callTy (kTup (K := K) rfl) (by rfl) B.tuple (by decide +kernel) (pa_cons (pv 5) pa_nil)) (pa_cons (pe_op op_sub (pe_op op_mod (pe_op op_fdiv (pv 0) pe_int) pe_int) pe_int) pa_nil)))))))
      pss_nil)
    (pss_cons (ps_if (pt_cmpR op_gt (pe_op op_mod (pe_op op_fdiv (pv 0) pe_int) pe_int) pe_int (nomark _))
      (pss_one (ps_ret (pe_tup (pa_cons (pe_callTy (kTup (K := K) rfl) (by rfl) B.tuple (by decide +kernel) (pa_cons (pe_lc (own := [("_law_k", 6)]) rfl sc__law_word.nd (pi_range1 (by rfl) B.range (pa_cons (pv 1) pa_nil)) (blkOk_by (own := [("_law_k", 6)]) (N := ["_law_cell", "_law_many", "_law_way", "_law_box", "_law_more", "_law_numbers", "_law_k"]) (sc := defScope s__law_word) (by decide +kernel)) (fun _ _ _ _ _ => (pgN (i := 6) sc__law_word.nd rfl (.inl rfl) (.inr rfl))) (fun _ _ _ _ _ => pts_nil) (fun _ _ _ _ _ => (pe_op op_sub (pe_op op_mod (pe_op op_fdiv (pv 0) (pe_ix (kIxL (K := K) rfl) (pe_lst (pa_cons pe_int (pa_cons pe_int (pa_cons pe_int pa_nil)))) (pv 6) (fun _ _ => rfl))) pe_int) pe_int))) pa_nil)) (pa_cons (pe_op op_sub (pe_op op_mod (pe_op op_fdiv (pv 0) pe_int) pe_int) pe_int) pa_nil)))))
      pss_nil)
    (pss_one (ps_ret (pe_tup (pa_cons (pe_callTy (kTup (K := K) rfl) (by rfl) B.tuple (by decide +kernel) (pa_cons (pe_lc (own := [("_law_k", 6)]) rfl sc__law_word.nd (pi_range1 (by rfl) B.range (pa_cons (pv 1) pa_nil)) (blkOk_by (own := [("_law_k", 6)]) (N := ["_law_cell", "_law_many", "_law_way", "_law_box", "_law_more", "_law_numbers", "_law_k"]) (sc := defScope s__law_word) (by decide +kernel)) (fun _ _ _ _ _ => (pgN (i := 6) sc__law_word.nd rfl (.inl rfl) (.inr rfl))) (fun _ _ _ _ _ => pts_nil) (fun _ _ _ _ _ => (pe_op op_sub (pe_op op_mod (pe_op op_fdiv (pv 0) (pe_ix (kIxL (K := K) rfl) (pe_lst (pa_cons pe_int (pa_cons pe_int (pa_cons pe_int pa_nil)))) (pv 6) (fun _ _ => rfl))) pe_int) pe_int))) pa_nil)) (pa_cons (pe_op op_sub (pe_op op_mod (pe_op op_fdiv (pv 0) pe_int) pe_int) pe_int) pa_nil)))))))))))), ?_⟩
  have b0 : 0 ≤ cell / 6 % (many : Int) := Int.emod_nonneg _ (by omega)
  have b1 : cell / 6 % (many : Int) < many := Int.emod_lt_of_pos _ (by omega)
  have d0 : ∀ z : Int, CDiv z 6 ∧ CDiv z 18 ∧ CDiv z 90 ∧ CDiv z 2250 ∧ CDiv z 7 ∧ CDiv z 450 ∧ CDiv z 342 ∧ CDiv z 6498 := fun z => ⟨⟨by decide, by decide⟩, ⟨by decide, by decide⟩, ⟨by decide, by decide⟩, ⟨by decide, by decide⟩, ⟨by decide, by decide⟩, ⟨by decide, by decide⟩, ⟨by decide, by decide⟩, ⟨by decide, by decide⟩⟩
  refine ⟨_, rfl, _, _, rfl, rfl, (show (0 : Int) < 6 by decide), ?_⟩
  refine ⟨_, rfl, _, _, rfl, rfl, (d0 _).1, _, rfl, _, _, rfl, rfl, (show (0 : Int) < (many : Int) by omega), ?_⟩
  refine ⟨_, rfl, _, _, rfl, rfl, (d0 _).2.1, _, _, rfl, rfl, (show (0 : Int) < 5 by decide), ?_⟩
  have u0 : 0 ≤ cell / 18 % 5 := by omega
  have u1 : cell / 18 % 5 < 5 := by omega
  refine ⟨_, rfl, _, _, rfl, rfl, _, rfl, ?_⟩
  refine yesDec (fun c => ?_) (fun c => ?_)
  · exact ⟨_, rfl, _, rfl, _, rfl, _, rfl, many, _, 1, _, rfl, b0, b1, hm, fun H' v sm hs => q H' v _ sm hs (unitW (by omega) (by omega))⟩
  refine ⟨_, rfl, _, _, rfl, rfl, _, rfl, ?_⟩
  refine yesDec (fun c => ?_) (fun c => ?_)
  · exact ⟨_, rfl, _, rfl, _, rfl, _, rfl, many, _, -1, _, rfl, b0, b1, hm, fun H' v sm hs => q H' v _ sm hs (unitW (by omega) (by omega))⟩
  refine ⟨fun σ' H' => H' = H ∧ σ' = [some (.int cell), some (.int (many : Int)), some (.int (cell % 6)), some (.int (cell / 6 % (many : Int))), some (.int (cell / 18 % 5)), none, none], ?_, ?_⟩
  · refine ⟨_, rfl, rfl, _, rfl, ?_⟩
    refine yesDec (fun c => ?_) (fun c => ?_)
    · refine ⟨_, rfl, _, _, rfl, rfl, _, rfl, ?_⟩
      refine yesDec (fun c2 => ?_) (fun c2 => ?_)
      · refine ⟨_, rfl, _, rfl, many, _, 1, 0, rfl, b0, b1, hm, fun H1 v s1 hs => ?_⟩
        obtain ⟨U, T, rfl, o1, o2⟩ := hs
        refine ⟨_, _, _, _, rfl, rfl, o1, atI_nat (j := 0) rfl, _, _, rfl, .inr o2, fun L nL => ?_⟩
        have nLH : H L = none := Same.free s1 nL
        have g0 : 0 ≤ (cell / 6 % (many : Int) + 1) % (many : Int) := Int.emod_nonneg _ (by omega)
        have g1 : (cell / 6 % (many : Int) + 1) % (many : Int) < many := Int.emod_lt_of_pos _ (by omega)
        refine ⟨_, rfl, _, rfl, _, rfl, _, _, rfl, rfl, _, rfl, _, _, rfl, rfl, (show (0 : Int) < (many : Int) by omega), L, _, _, ((cell / 6 % (many : Int) + 1) % (many : Int)).toNat, rfl, rfl, upd_same, ?_, ?_⟩
        · have hlen : ((unitOf many (cell / 6 % (many : Int)).toNat 1 0).1.map V.int).length = many := by simp [unitOf]
          unfold ixN
          rw [hlen, if_pos g0, if_pos g1]
        refine ⟨_, rfl, _, _, rfl, .inl ⟨.of upd_same, fun T2 nT2 => ⟨_, rfl, _, _, rfl, rfl, (d0 _).2.2.1, _, _, rfl, rfl, (show (0 : Int) < 5 by decide), _, _, rfl, rfl, by show 2 ≤ sizeLine; decide, fun U2 nU2 => ?_⟩⟩⟩
        refine q _ _ ((unitOf many (cell / 6 % (many : Int)).toNat 1 0).1.set ((cell / 6 % (many : Int) + 1) % (many : Int)).toNat (-1), cell / 90 % 5 - 2) (Same.trans (sameMut (Same.trans s1 (sameNew nL)) nLH) (Same.trans (sameNew nT2) (sameNew nU2))) ⟨U2, T2, rfl, .of upd_same, tupS (sameNew nU2) (.of ?_)⟩ ⟨by simp [unitOf], fun n hn => ?_, by omega, by omega⟩
        · rw [upd_same, List.map_set]
        · rcases List.mem_or_eq_of_mem_set hn with h2 | h2
          · exact (unitW (many := many) (box := (cell / 6 % (many : Int)).toNat) (number := 1) (more := 0) (by omega) (by omega)).2.1 n h2
          · omega
      · exact ⟨rfl, rfl⟩
    · exact ⟨rfl, rfl⟩
  · rintro σ' H' ⟨rfl, rfl⟩
    have szl : (1000 : Nat) ≤ sizeLine := by decide
    refine ⟨_, rfl, _, _, rfl, rfl, (d0 _).2.2.1, _, _, rfl, rfl, (show (0 : Int) < 4 by decide), _, _, rfl, rfl, _, rfl, ?_⟩
    refine yesDec (fun c3 => ?_) (fun c3 => ?_)
    · refine ⟨_, rfl, _, rfl, by omega, by omega, fun D nD => ?_⟩
      refine lc_it walk_range (Made H' D (RP fun _ i => -9 ≤ i ∧ i ≤ 9)) (made0 nD) (fun _ _ _ _ => trivial) (fun i x H1 H2 hi p y => ?_) (fun H1 p => ?_)
      · obtain ⟨rfl, rfl⟩ := y
        refine ⟨rfl, ?_⟩
        refine lcYes ?_
        obtain ⟨z, ez, mz⟩ := atMem (xs := [18, 90, 450]) (i := 0 + (i : Int)) (by omega) (by show 0 + (i : Int) < ((3 : Nat) : Int); omega)
        have hz : 18 ≤ z ∧ z ≤ 450 := by
          simp at mz
          omega
        refine ⟨_, rfl, by show 3 ≤ sizeLine; decide, fun L nL => ⟨_, rfl, _, _, _, _, rfl, rfl, .of upd_same, ez, _, _, rfl, rfl, ⟨by omega, by omega⟩, _, _, rfl, rfl, (show (0 : Int) < 5 by decide), _, _, rfl, rfl, ?_⟩⟩
        exact p.push nD (stRP _) (by omega) (sameNew nL) ⟨_, rfl, by omega, by omega⟩
      · obtain ⟨ns, ln, eD, s3, wn⟩ := madeRP p
        refine ⟨_, _, rfl, .inl ⟨.of eD, fun T nT => ⟨_, rfl, _, _, rfl, rfl, (d0 _).2.2.2.1, _, _, rfl, rfl, (show (0 : Int) < 13 by decide), _, _, rfl, rfl, by show 2 ≤ sizeLine; decide, fun U nU => ?_⟩⟩⟩
        refine q _ _ (ns, cell / 2250 % 13 - 6) (Same.trans s3 (Same.trans (sameNew nT) (sameNew nU))) ⟨U, T, rfl, .of upd_same, tupS (sameNew nU) (.of upd_same)⟩ ⟨by show ns.length = many; omega, fun n hn => ?_, by show -99 ≤ cell / 2250 % 13 - 6; omega, by show cell / 2250 % 13 - 6 ≤ 99; omega⟩
        obtain ⟨j, hj⟩ := List.mem_iff_getElem?.mp hn
        exact wn j n hj
    · refine ⟨_, rfl, _, rfl, by omega, by omega, fun D nD => ?_⟩
      refine lc_it walk_range (Made H' D (RP fun _ i => -9 ≤ i ∧ i ≤ 9)) (made0 nD) (fun _ _ _ _ => trivial) (fun i x H1 H2 hi p y => ?_) (fun H1 p => ?_)
      · obtain ⟨rfl, rfl⟩ := y
        refine ⟨rfl, ?_⟩
        refine lcYes ?_
        obtain ⟨z, ez, mz⟩ := atMem (xs := [18, 342, 6498]) (i := 0 + (i : Int)) (by omega) (by show 0 + (i : Int) < ((3 : Nat) : Int); omega)
        have hz : 18 ≤ z ∧ z ≤ 6498 := by
          simp at mz
          omega
        refine ⟨_, rfl, by show 3 ≤ sizeLine; decide, fun L nL => ⟨_, rfl, _, _, _, _, rfl, rfl, .of upd_same, ez, _, _, rfl, rfl, ⟨by omega, by omega⟩, _, _, rfl, rfl, (show (0 : Int) < 19 by decide), _, _, rfl, rfl, ?_⟩⟩
        exact p.push nD (stRP _) (by omega) (sameNew nL) ⟨_, rfl, by omega, by omega⟩
      · obtain ⟨ns, ln, eD, s3, wn⟩ := madeRP p
        refine ⟨_, _, rfl, .inl ⟨.of eD, fun T nT => ⟨_, rfl, _, _, rfl, rfl, (d0 _).2.2.2.2.1, _, _, rfl, rfl, (show (0 : Int) < 199 by decide), _, _, rfl, rfl, by show 2 ≤ sizeLine; decide, fun U nU => ?_⟩⟩⟩
        refine q _ _ (ns, cell / 7 % 199 - 99) (Same.trans s3 (Same.trans (sameNew nT) (sameNew nU))) ⟨U, T, rfl, .of upd_same, tupS (sameNew nU) (.of upd_same)⟩ ⟨by show ns.length = many; omega, fun n hn => ?_, by show -99 ≤ cell / 7 % 199 - 99; omega, by show cell / 7 % 199 - 99 ≤ 99; omega⟩
        obtain ⟨j, hj⟩ := List.mem_iff_getElem?.mp hn
        exact wn j n hj

theorem a2Choose {α β : Type} {R : α → β → Prop} : ∀ {ys : List α}, (∀ y ∈ ys, ∃ s, R y s) → ∃ ss, A2 R ys ss
  | [], _ => ⟨[], .nil⟩
  | y :: r, h => by
    obtain ⟨s, hs⟩ := h y List.mem_cons_self
    obtain ⟨ss, hr⟩ := a2Choose fun z hz => h z (List.mem_cons_of_mem _ hz)
    exact ⟨s :: ss, .cons hs hr⟩
theorem a2Mem {α β : Type} {R : α → β → Prop} : ∀ {a : List α} {b : List β}, A2 R a b → ∀ y ∈ b, ∃ x ∈ a, R x y
  | _, _, .nil, _, m => by cases m
  | _, _, .cons h t, y, m => by
    rcases List.mem_cons.mp m with e | m
    · subst e; exact ⟨_, List.mem_cons_self, h⟩
    · obtain ⟨x, hx, r⟩ := a2Mem t y m
      exact ⟨x, List.mem_cons_of_mem _ hx, r⟩
theorem size_le : ∀ {st : List Iv}, (∀ p ∈ st, p.2 ≤ p.1 + 9) → size st ≤ 9 * st.length
  | [], _ => by simp [size]
  | p :: r, h => by
    have h1 := h p List.mem_cons_self
    have h2 := size_le (st := r) fun q hq => h q (List.mem_cons_of_mem _ hq)
    simp only [size, List.map_cons, List.sum_cons, List.length_cons] at h2 ⊢
    omega
theorem seqBut2 {K : PySem.W.Frag} {A B a : Addr} {H H1 H2 : Hp} {xs : List V} (e : But2 A B H1 H2) (s : Same H H1) (nA : H A = none) (nB : H B = none) (h : SqL K H a xs) : SqL K H2 a xs := by
  rcases h with (h | ⟨o, h⟩) | h
  · exact .inl (.inl (e _ _ (fun z => by rw [z, nA] at h; cases h) (fun z => by rw [z, nB] at h; cases h) (s _ _ h)))
  · exact .inl (.inr ⟨o, e _ _ (fun z => by rw [z, nA] at h; cases h) (fun z => by rw [z, nB] at h; cases h) (s _ _ h)⟩)
  · exact .inr h
abbrev s_law : Stmt := topS 27
theorem sc_law : FnScope ["_law_script", "_law_stretch_here", "_law_many", "_law_some", "_law_filling", "_law_good", "_law_handed", "_law_parts", "_law_found", "_law_tree", "_law_k"] ["_law_script"] (defScope s_law) := ⟨rfl, rfl, rfl, by decide +kernel, rfl, by decide +kernel, by decide +kernel⟩

theorem ok_law {f : Addr} {fd : FuncData} {k : Nat} (F : Fun K "law" "law" s_law f fd) (B : Bl mg) (c__law_at : C8.Cal P w K mg base k "_law_at" (spAt K) []) (c__law_stretch : C8.Cal P w K mg base k "_law_stretch" (spStretch K) []) (c__law_word : C8.Cal P w K mg base k "_law_word" (spWord K) []) (c__law_all_in : C8.Cal P w K mg base k "_law_all_in" (spAllIn K) []) (c__law_holds : C8.Cal P w K mg base k "_law_holds" (spHolds K) [])
    (c_tried : C8.Cal P w K mg base k "tried" (spTriedP K) []) (c__law_is_tree : C8.Cal P w K mg base k "_law_is_tree" (spIsT K 50) []) (c__law_trees_right : C8.Cal P w K mg base k "_law_trees_right" (spTR K) []) : FnOk P w K mg base CX0 (k + 1) f fd ["_law_script"] (spLaw K) := by
  refine F.ok sc_law (fun vs H Q E h => ?_) (fun cdv A outer s H vs Q E hr h => ?_)
  · obtain ⟨a, ns, rfl, _⟩ := h
    rfl
  obtain ⟨a, ns, rfl, hS, h63, q⟩ := h
  refine ⟨_, (pss_cons (ps_set (i := 1) sc_law.nd rfl (.inl rfl) (C8.pe_c c__law_stretch hr (Nat.le_refl _) (by rfl) (pa_cons (pv 0) pa_nil)))
    (pss_cons (ps_set (i := 2) sc_law.nd rfl (.inr rfl) (pe_callB (kLen (K := K) rfl) (by rfl) B.len PySem.boot_len (pa_cons (pv 1) pa_nil)))
    (pss_cons (ps_set (i := 3) sc_law.nd rfl (.inr rfl) (pe_lc (own := [("_law_k", 10)]) rfl sc_law.nd (pi_range1 (by rfl) B.range (pa_cons (pe_op op_add pe_int (pe_op op_mod (C8.pe_c c__law_at hr (Nat.le_refl _) (by rfl) (pa_cons (pv 0) (pa_cons pe_int pa_nil))) pe_int)) pa_nil)) (blkOk_by (own := [("_law_k", 10)]) (N := ["_law_script", "_law_stretch_here", "_law_many", "_law_some", "_law_filling", "_law_good", "_law_handed", "_law_parts", "_law_found", "_law_tree", "_law_k"]) (sc := defScope s_law) (by decide +kernel)) (fun _ _ _ _ _ => (pgN (i := 10) sc_law.nd rfl (.inl rfl) (.inr rfl))) (fun _ _ _ _ _ => pts_nil) (fun _ _ _ _ _ => (C8.pe_c c__law_word hr (Nat.le_refl _) (by rfl) (pa_cons (C8.pe_c c__law_at hr (Nat.le_refl _) (by rfl) (pa_cons (pv 0) (pa_cons (pe_op op_add pe_int (pv 10)) pa_nil))) (pa_cons (pv 2) pa_nil))))))
    (pss_cons (ps_setLc (i := 5) (own := [("_law_filling", 4)]) rfl sc_law.nd rfl rfl (sw_true rfl rfl rfl (by decide +kernel)) (kList_ (K := K) rfl (C8.pe_c c__law_all_in hr (Nat.le_refl _) (by rfl) (pa_cons (pv 1) pa_nil))) (blkOk_by (own := [("_law_filling", 4)]) (N := ["_law_script", "_law_stretch_here", "_law_many", "_law_some", "_law_filling", "_law_good", "_law_handed", "_law_parts", "_law_found", "_law_tree", "_law_k"]) (sc := defScope s_law) (by decide +kernel)) (fun _ _ _ _ _ => (pgN (i := 4) sc_law.nd rfl (.inl rfl) (.inr rfl))) (fun _ _ _ _ _ => (pts_one (pt_val (C8.pe_c c__law_holds hr (Nat.le_refl _) (by rfl) (pa_cons (pv 3) (pa_cons (pv 4) pa_nil)))))) (fun _ _ _ _ _ => (pv 4)))
    (pss_cons (ps_set (i := 6) sc_law.nd rfl (.inl rfl) (pe_lst (pa_cons (pe_lst pa_nil) (pa_cons (pe_lst pa_nil) pa_nil))))
    (pss_cons (ps_for PassesOwn.never rfl (kList_ (K := K) rfl (pe_lst (pa_cons (pe_tup (pa_cons (pv 1) (pa_cons (pv 3) pa_nil))) (pa_cons (pe_tup (pa_cons (kRevL (K := K) rfl (pv 1)) (pa_cons (pe_slice (kSlL (K := K) rfl) (pv 3) po_none (po_some pe_int)) pa_nil))) (pa_cons (pe_tup (pa_cons (pv 1) (pa_cons (pv 3) pa_nil))) pa_nil))))) (pg_name (i := 7) sc_law.nd rfl (.inl rfl))
      (pss_cons (ps_expr (pe_bm0 PySem.F.plainAttrs_list PySem.F.slot_list_clear PySem.F.type_list_clear mt_clear (pe_ix (kIxL (K := K) rfl) (pv 6) pe_int (fun _ _ => rfl))))
      (pss_cons (ps_expr (pe_bm PySem.F.plainAttrs_list PySem.F.slot_list_extend PySem.F.type_list_extend mt_extend (pe_ix (kIxL (K := K) rfl) (pv 6) pe_int (fun _ _ => rfl)) (pa_cons (pe_ix (kIxT (K := K) rfl) (pv 7) pe_int (fun _ _ => rfl)) pa_nil)))
      (pss_cons (ps_expr (pe_bm0 PySem.F.plainAttrs_list PySem.F.slot_list_clear PySem.F.type_list_clear mt_clear (pe_ix (kIxL (K := K) rfl) (pv 6) pe_int (fun _ _ => rfl))))
      (pss_cons (ps_expr (pe_bm PySem.F.plainAttrs_list PySem.F.slot_list_extend PySem.F.type_list_extend mt_extend (pe_ix (kIxL (K := K) rfl) (pv 6) pe_int (fun _ _ => rfl)) (pa_cons (pe_ix (kIxT (K := K) rfl) (pv 7) pe_int (fun _ _ => rfl)) pa_nil)))
      (pss_cons (ps_set (i := 8) sc_law.nd rfl (.inl rfl) (C8.pe_c c_tried hr (Nat.le_refl _) (by rfl) (pa_cons (pe_ix (kIxL (K := K) rfl) (pv 6) pe_int (fun _ _ => rfl)) (pa_cons (pe_ix (kIxL (K := K) rfl) (pv 6) pe_int (fun _ _ => rfl)) pa_nil))))
      (pss_one (ps_if (PW.pt (pw_or (pt_cmpR (kNeD (K := K) rfl hr.units) (pv 6) (pe_lst (pa_cons (pe_ix (kIxT (K := K) rfl) (pv 7) pe_int (fun _ _ => rfl)) (pa_cons (pe_ix (kIxT (K := K) rfl) (pv 7) pe_int (fun _ _ => rfl)) pa_nil))) (nomark _)) (pw_or (pt_not (pt_val (pe_callB (kIsi (K := K) rfl) (by rfl) B.isinstance (by decide +kernel) (pa_cons (pv 8) (pa_cons (pe_bltn (v := .ty "tuple") (by rfl) B.tuple (by decide +kernel) rfl) pa_nil))))) (pw_or1 (pt_cmpR op_ne (pe_callB (kLen (K := K) rfl) (by rfl) B.len PySem.boot_len (pa_cons (pv 8) pa_nil)) pe_int (nomark _))))))
        (pss_one (ps_ret pe_bl))
        pss_nil))))))))
    (pss_cons (ps_asg (pv 8) (kT2 (K := K) rfl rfl (pg_name (i := 9) sc_law.nd rfl (.inl rfl)) (pg_name (i := 4) sc_law.nd rfl (.inl rfl))))
    (pss_cons (ps_if (pt_cmpR (kNeD (K := K) rfl hr.units) (pv 5) (pe_lst pa_nil) (nomark _))
      (pss_one (ps_ret (pe_and (pe_cmpR op_isN (pv 9) pe_non (nomark _)) (pe_and (pe_callB (kIsi (K := K) rfl) (by rfl) B.isinstance (by decide +kernel) (pa_cons (pv 4) (pa_cons (pe_bltn (v := .ty "list") (by rfl) B.list (by decide +kernel) rfl) pa_nil))) (pe_one (pe_cmpR (kInD (K := K) rfl (roomU1 hr)) (pv 4) (pv 5) (by rfl)))))))
      pss_nil)
    (pss_cons (ps_if (PW.pt (pw_or (pt_cmpR op_notN (pv 4) pe_non (nomark _)) (pw_or1 (pt_not (pt_val (C8.pe_c c__law_is_tree hr (Nat.le_refl _) (by rfl) (pa_cons (pv 1) (pa_cons (pv 3) (pa_cons (pv 9) pa_nil)))))))))
      (pss_one (ps_ret pe_bl))
      pss_nil)
    (pss_one (ps_ret (C8.pe_c c__law_trees_right hr (Nat.le_refl _) (by rfl) (pa_cons (pv 1) (pa_cons (pv 3) (pa_cons (pv 9) (pa_cons (pv 0) pa_nil)))))))))))))))), ?_⟩
  have szl : (100000 : Nat) ≤ sizeLine := by decide
  refine ⟨_, rfl, a, ns, rfl, hS, h63, fun sa H1 ws st nsa s1 hsa hW hst => ?_⟩
  have lw := hW.len
  have w1 := hst.1
  have w3 := hst.2.1
  refine ⟨_, rfl, _, _, rfl, .inl (.of hsa), ?_⟩
  have hS1 := Same.seq s1 hS
  refine ⟨_, rfl, a, ns, 4, rfl, hS1, h63, by decide, by decide, fun z z0 z1 => ?_⟩
  refine ⟨_, _, rfl, rfl, (show (0 : Int) < 6 by decide), _, _, rfl, rfl, _, rfl, by omega, by omega, fun D nD => ?_⟩
  refine lc_it walk_range (Made H1 D (fun _ y H' => ∃ s : Sm, SumIn K H' y s ∧ SumW ws.length s)) (made0 nD) (fun _ _ _ _ => trivial) (fun i x H2 H3 hi p y => ?_) (fun H2 p => ?_)
  · obtain ⟨rfl, rfl⟩ := y
    refine ⟨rfl, ?_⟩
    refine lcYes ?_
    refine ⟨_, rfl, _, rfl, _, _, rfl, rfl, a, ns, _, rfl, Same.seq p.same hS1, h63, by omega, by omega, fun c c0 c1 => ?_⟩
    refine ⟨_, rfl, c, ws.length, rfl, c0, by omega, by omega, fun H4 v s0 s4 hs hw => ?_⟩
    exact p.push nD (fun _ _ _ _ e ⟨s, h1, h2⟩ => ⟨s, tsSum e h1, h2⟩) (by omega) s4 ⟨s0, hs, hw⟩
  obtain ⟨us, lus, hD, s2, hy⟩ := p
  obtain ⟨ss, hUs0⟩ : ∃ ss, A2 (fun y (s : Sm) => SumIn K H2 y s ∧ SumW ws.length s) us ss := a2Choose fun y hm => by
    obtain ⟨j, hj⟩ := List.mem_iff_getElem?.mp hm
    exact hy j y hj
  have hUs : A2 (SumIn K H2) us ss := A2.map (B' := ss) (fun _ _ _ r => r.1) (fun _ m => m) hUs0
  have hsw : ∀ s ∈ ss, SumW st.length s := fun s hs => by
    obtain ⟨_, _, r⟩ := a2Mem hUs0 s hs
    rw [← lw]
    exact r.2
  have lss : ss.length = us.length := hUs.len.symm
  have l6 : 1 ≤ ss.length ∧ ss.length ≤ 6 := by omega
  clear hy hUs0
  have hsa2 := s2 _ _ hsa
  have hW2 := priTS (tsOf s2) hW
  -- all fillings, and those by which all hold
  refine ⟨_, rfl, sa, st, rfl, ⟨ws, .of hsa2, hW2⟩, w3, fun p hp => by have := hst.2.2.1 p hp; omega, fun al H3 av nal s3 hal hAl => ?_⟩
  refine ⟨_, rfl, ⟨_, .of hal⟩, fun Dg nDg => ?_⟩
  refine lc_it (walk_list (xs := av)) (fun j H' => Same H3 H' ∧ ∃ gv : List V, H' Dg = some (.lst gv) ∧ gv.length ≤ j ∧ A2 (FIn K H3) gv (((allIn st).take j).filter (holds ss))) ⟨sameNew nDg, [], upd_same, Nat.le_refl _, by simpa using A2.nil⟩ (fun j H' _ p => .of (p.1 _ _ hal)) (fun j x H' H'' hj p y => ?_) (fun H4 p => ?_)
  · obtain ⟨sm, gv, hg, lg, hG⟩ := p
    obtain ⟨rfl, ex⟩ := y
    obtain ⟨fs, ef, ⟨fa, rfl, hfa⟩⟩ := A2.at hAl ex
    have mf := List.mem_of_getElem? ef
    have lav : av.length ≤ 1000 := by
      have h1 := hAl.len
      have h2 := allIn_len (st := st) (fun p hp => by have := hst.2.2.1 p hp; unfold many; omega) st.length
      rw [List.take_length] at h2
      have h3 : 10 ^ st.length ≤ 10 ^ 3 := Nat.pow_le_pow_right (by decide) w3
      omega
    have hin : InS st fs := by
      have := allIn_in (st := st) st.length (Nat.le_refl _) fs
      rw [List.take_length] at this
      exact this mf
    have linS : ∀ {st : List Iv} {fs : List Int}, InS st fs → fs.length = st.length := by
      intro st
      induction st with
      | nil => intro fs h; cases fs with | nil => rfl | cons _ _ => exact h.elim
      | cons p r ih => intro fs h; cases fs with | nil => exact h.elim | cons g t => simp [ih h.2.2]
    have bnd : ∀ x ∈ fs, -1000 ≤ x ∧ x ≤ 1000 := fun x hx => by
      obtain ⟨i, hi⟩ := List.mem_iff_getElem?.mp hx
      have hi2 : i < st.length := by rw [← linS hin]; exact (List.getElem?_eq_some_iff.mp hi).1
      obtain ⟨g, eg, g1, g2⟩ := ins_at hin (List.getElem?_eq_getElem hi2)
      rw [hi] at eg
      cases eg
      have := hst.2.2.1 _ (List.getElem_mem hi2)
      omega
    have s2m := Same.trans s3 sm
    refine ⟨rfl, ?_⟩
    refine ⟨_, rfl, _, rfl, D, fa, us, ss, fs, rfl, .of (s2m _ _ hD), A2.map (B' := ss) (fun _ _ _ r => SumIn.mono s2m r) (fun _ m => m) hUs, .of (sm _ _ hfa), fun s hs => ⟨(hsw s hs).1.trans (linS hin).symm, (hsw s hs).2.1⟩, bnd, by rw [linS hin]; omega, by omega, fun H5 s5 => ?_⟩
    have et : (allIn st).take (j + 1) = (allIn st).take j ++ [fs] := by
      obtain ⟨hi2, e⟩ := List.getElem?_eq_some_iff.mp ef
      rw [List.take_succ_eq_append_getElem hi2, e]
    refine ⟨_, rfl, ?_⟩
    refine ifB (fun e => ?_) (fun e => ?_)
    · refine ⟨_, rfl, gv, s5 _ _ hg, by omega, sameMut (Same.trans sm s5) nDg, gv ++ [.ref fa], upd_same, by simp; omega, ?_⟩
      rw [et, List.filter_append]
      simp only [List.filter_cons, e, if_true, List.filter_nil]
      exact hG.app (.cons ⟨fa, rfl, hfa⟩ .nil)
    · refine ⟨Same.trans sm s5, gv, s5 _ _ hg, by omega, ?_⟩
      rw [et, List.filter_append]
      simp only [List.filter_cons, e, List.filter_nil, List.append_nil]
      simpa using hG
  obtain ⟨s4, gv, hgv, _, hG⟩ := p
  rw [hAl.len, List.take_length] at hG
  have s24 := Same.trans s3 s4
  have hG4 := finSame s4 hG
  have hD4 := s24 _ _ hD
  have hsa4 := s24 _ _ hsa2
  have hW4 := priTS (tsOf s24) hW2
  have hUs4 : A2 (SumIn K H4) us ss := A2.map (B' := ss) (fun _ _ _ r => SumIn.mono s24 r) (fun _ m => m) hUs
  -- what is handed in
  refine ⟨by show 0 ≤ sizeLine; decide, fun A1 nA => ⟨by show 0 ≤ sizeLine; decide, fun B1 nB => ⟨by show 2 ≤ sizeLine; decide, fun Hd nH => ?_⟩⟩⟩
  have s5 : Same H4 (upd (upd (upd H4 A1 (.lst [])) B1 (.lst [])) Hd (.lst [.ref A1, .ref B1])) := Same.trans (sameNew nA) (Same.trans (sameNew nB) (sameNew nH))
  have nAB : A1 ≠ B1 := fun z => by rw [← z, upd_same] at nB; cases nB
  have nHA : Hd ≠ A1 := fun z => by rw [z, sameNew nB _ _ upd_same] at nH; cases nH
  have nHB : Hd ≠ B1 := fun z => by rw [z, upd_same] at nH; cases nH
  have fA : upd (upd (upd H4 A1 (.lst [])) B1 (.lst [])) Hd (.lst [.ref A1, .ref B1]) A1 = some (.lst []) := sameNew nH _ _ (sameNew nB _ _ upd_same)
  have fB : upd (upd (upd H4 A1 (.lst [])) B1 (.lst [])) Hd (.lst [.ref A1, .ref B1]) B1 = some (.lst []) := sameNew nH _ _ upd_same
  have fH : upd (upd (upd H4 A1 (.lst [])) B1 (.lst [])) Hd (.lst [.ref A1, .ref B1]) Hd = some (.lst [.ref A1, .ref B1]) := upd_same
  have nB4 : H4 B1 = none := Same.free (sameNew nA) nB
  generalize upd (upd (upd H4 A1 (.lst [])) B1 (.lst [])) Hd (.lst [.ref A1, .ref B1]) = H5 at *
  have hsa5 := s5 _ _ hsa4
  have hD5 := s5 _ _ hD4
  have hW5 := priTS (tsOf s5) hW4
  have hUs5 : A2 (SumIn K H5) us ss := A2.map (B' := ss) (fun _ _ _ r => SumIn.mono s5 r) (fun _ m => m) hUs4
  have nsA : sa ≠ A1 := fun z => by rw [z, nA] at hsa4; cases hsa4
  have nsB : sa ≠ B1 := fun z => by rw [z, nB4] at hsa4; cases hsa4
  have nDA : D ≠ A1 := fun z => by rw [z, nA] at hD4; cases hD4
  have nDB : D ≠ B1 := fun z => by rw [z, nB4] at hD4; cases hD4
  clear nH nB
  -- the parts
  have e1 : cutV us none (some 1) = us.take 1 := cutTake 1
  refine ⟨_, rfl, _, rfl, by show 2 ≤ sizeLine; decide, fun T1 nT1 => ?_⟩
  have t1 := sameNew (o := .tup [.ref sa, .ref D]) nT1
  refine ⟨_, rfl, _, _, rfl, .of (t1 _ _ hsa5), fun Rv nR => ?_⟩
  have t2 := sameNew (o := .lst ws.reverse) nR
  refine ⟨_, rfl, _, rfl, _, _, rfl, .of ((Same.trans t1 t2) _ _ hD5), fun S1 nS => ?_⟩
  rw [e1]
  have t3 := sameNew (o := .lst (us.take 1)) nS
  refine ⟨by show 2 ≤ sizeLine; decide, fun T2 nT2 => ⟨_, rfl, _, rfl, by show 2 ≤ sizeLine; decide, fun T3 nT3 => ⟨by show 3 ≤ sizeLine; decide, fun Lp nL => ?_⟩⟩⟩
  have t4 := sameNew (o := .tup [.ref Rv, .ref S1]) nT2
  have t5 := sameNew (o := .tup [.ref sa, .ref D]) nT3
  have t6 := sameNew (o := .lst [.ref T1, .ref T2, .ref T3]) nL
  have u5 := Same.trans t5 t6
  have u4 := Same.trans t4 u5
  have u3 := Same.trans t3 u4
  have u2 := Same.trans t2 u3
  have s56 := Same.trans t1 u2
  have hRv : upd (upd (upd (upd (upd (upd H5 T1 (.tup [.ref sa, .ref D])) Rv (.lst ws.reverse)) S1 (.lst (us.take 1))) T2 (.tup [.ref Rv, .ref S1])) T3 (.tup [.ref sa, .ref D])) Lp (.lst [.ref T1, .ref T2, .ref T3]) Rv = some (.lst ws.reverse) := u3 _ _ upd_same
  have hS1' : upd (upd (upd (upd (upd (upd H5 T1 (.tup [.ref sa, .ref D])) Rv (.lst ws.reverse)) S1 (.lst (us.take 1))) T2 (.tup [.ref Rv, .ref S1])) T3 (.tup [.ref sa, .ref D])) Lp (.lst [.ref T1, .ref T2, .ref T3]) S1 = some (.lst (us.take 1)) := u4 _ _ upd_same
  have hT1 : upd (upd (upd (upd (upd (upd H5 T1 (.tup [.ref sa, .ref D])) Rv (.lst ws.reverse)) S1 (.lst (us.take 1))) T2 (.tup [.ref Rv, .ref S1])) T3 (.tup [.ref sa, .ref D])) Lp (.lst [.ref T1, .ref T2, .ref T3]) T1 = some (.tup [.ref sa, .ref D]) := u2 _ _ upd_same
  have hT2 : upd (upd (upd (upd (upd (upd H5 T1 (.tup [.ref sa, .ref D])) Rv (.lst ws.reverse)) S1 (.lst (us.take 1))) T2 (.tup [.ref Rv, .ref S1])) T3 (.tup [.ref sa, .ref D])) Lp (.lst [.ref T1, .ref T2, .ref T3]) T2 = some (.tup [.ref Rv, .ref S1]) := u5 _ _ upd_same
  have hT3 : upd (upd (upd (upd (upd (upd H5 T1 (.tup [.ref sa, .ref D])) Rv (.lst ws.reverse)) S1 (.lst (us.take 1))) T2 (.tup [.ref Rv, .ref S1])) T3 (.tup [.ref sa, .ref D])) Lp (.lst [.ref T1, .ref T2, .ref T3]) T3 = some (.tup [.ref sa, .ref D]) := t6 _ _ upd_same
  have hLp : upd (upd (upd (upd (upd (upd H5 T1 (.tup [.ref sa, .ref D])) Rv (.lst ws.reverse)) S1 (.lst (us.take 1))) T2 (.tup [.ref Rv, .ref S1])) T3 (.tup [.ref sa, .ref D])) Lp (.lst [.ref T1, .ref T2, .ref T3]) Lp = some (.lst [.ref T1, .ref T2, .ref T3]) := upd_same
  have nRA : Rv ≠ A1 := fun z => by rw [z, t1 _ _ fA] at nR; cases nR
  have nRB : Rv ≠ B1 := fun z => by rw [z, t1 _ _ fB] at nR; cases nR
  have nSA : S1 ≠ A1 := fun z => by rw [z, (Same.trans t1 t2) _ _ fA] at nS; cases nS
  have nSB : S1 ≠ B1 := fun z => by rw [z, (Same.trans t1 t2) _ _ fB] at nS; cases nS
  have nLA : Lp ≠ A1 := fun z => by rw [z, (Same.trans t1 (Same.trans t2 (Same.trans t3 (Same.trans t4 t5)))) _ _ fA] at nL; cases nL
  have nLB : Lp ≠ B1 := fun z => by rw [z, (Same.trans t1 (Same.trans t2 (Same.trans t3 (Same.trans t4 t5)))) _ _ fB] at nL; cases nL
  clear u5 u4 u3 u2 t1 t2 t3 t4 t5 t6
  refine ⟨_, rfl, ⟨_, .of hLp⟩, ?_⟩
  generalize upd (upd (upd (upd (upd (upd H5 T1 (.tup [.ref sa, .ref D])) Rv (.lst ws.reverse)) S1 (.lst (us.take 1))) T2 (.tup [.ref Rv, .ref S1])) T3 (.tup [.ref sa, .ref D])) Lp (.lst [.ref T1, .ref T2, .ref T3]) = H6 at *
  clear nL nT3 nT2 nS nR nT1
  have hA6 := s56 _ _ fA
  have hB6 := s56 _ _ fB
  have hH6 := s56 _ _ fH
  have hsa6 := s56 _ _ hsa5
  have hD6 := s56 _ _ hD5
  have hW6 := priTS (tsOf s56) hW5
  have hUs6 : A2 (SumIn K H6) us ss := A2.map (B' := ss) (fun _ _ _ r => SumIn.mono s56 r) (fun _ m => m) hUs5
  have s46 := Same.trans s5 s56
  have src : ∀ (i : Nat) (x : V), [V.ref T1, .ref T2, .ref T3][i]? = some x → ∃ (T sA sB : Addr) (wA uB : List V) (st' : List Iv) (ss' : List Sm), x = .ref T ∧ H6 T = some (.tup [.ref sA, .ref sB]) ∧ H6 sA = some (.lst wA) ∧ sA ≠ A1 ∧ sA ≠ B1 ∧ H6 sB = some (.lst uB) ∧ sB ≠ A1 ∧ sB ≠ B1 ∧
      A2 (PrI K H6) wA st' ∧ A2 (SumIn K H6) uB ss' ∧ StrW st' ∧ (∀ s ∈ ss', SumW st'.length s) ∧ 1 ≤ ss'.length ∧ ss'.length ≤ 6 ∧ (i = 2 → st' = st ∧ ss' = ss) := fun i x ex => by
    match i, ex with
    | 0, ex => cases ex; exact ⟨T1, sa, D, ws, us, st, ss, rfl, hT1, hsa6, nsA, nsB, hD6, nDA, nDB, hW6, hUs6, hst, hsw, l6.1, l6.2, fun _ => ⟨rfl, rfl⟩⟩
    | 1, ex =>
      cases ex
      refine ⟨T2, Rv, S1, ws.reverse, us.take 1, st.reverse, ss.take 1, rfl, hT2, hRv, nRA, nRB, hS1', nSA, nSB, a2Rev hW6, A2.take 1 hUs6, strRev hst, fun s hs => ?_, by simp; omega, by simp; omega, fun h => by omega⟩
      rw [List.length_reverse]
      exact hsw s (List.mem_of_mem_take hs)
    | 2, ex => cases ex; exact ⟨T3, sa, D, ws, us, st, ss, rfl, hT3, hsa6, nsA, nsB, hD6, nDA, nDB, hW6, hUs6, hst, hsw, l6.1, l6.2, fun _ => ⟨rfl, rfl⟩⟩
  refine for_it (walk_list (xs := [.ref T1, .ref T2, .ref T3])) (fun i σ H' => But2 A1 B1 H6 H' ∧ ∃ (wa wb : List V) (y7 y8 : Option V), σ = [some (.ref a), some (.ref sa), some (.int (ws.length : Nat)), some (.ref D), none, some (.ref Dg), some (.ref Hd), y7, y8, none, none] ∧ H' A1 = some (.lst wa) ∧ H' B1 = some (.lst wb) ∧
      (i = 3 → ∃ (r : Addr) (tv fv : V) (Hq : Hp), y8 = some (.ref r) ∧ SqT K H' r [tv, fv] ∧ Told K Hq H' tv fv st ss))
    ⟨fun _ _ _ _ h => h, [], [], none, none, rfl, hA6, hB6, fun h => by cases h⟩ (fun i σ H' _ p => .of (p.1 _ _ nLA nLB hLp)) (fun i x σ H' H0' hi p y => ?_) (fun σ H' p => ?_)
  · obtain ⟨b6, wa, wb, y7, y8, rfl, hA, hB, _⟩ := p
    obtain ⟨rfl, ex⟩ := y
    obtain ⟨T, sA, sB, wA, uB, st', ss', rfl, hT, hsA, nA1, nA2, hsB, nB1, nB2, hWA, hUB, hst', hsw', l1', l6', hlast⟩ := src i x ex
    have ts6 := but2TS b6 hA6 hB6
    have hT' : SqT K H0' T [.ref sA, .ref sB] := .of ((ts6 T).1 _ hT)
    have hsA' := b6 _ _ nA1 nA2 hsA
    have hsB' := b6 _ _ nB1 nB2 hsB
    have hH' := b6 _ _ nHA nHB hH6
    have lwA : wA.length ≤ 10 := by have := hWA.len; have := hst'.2.1; omega
    have luB : uB.length ≤ 10 := by have := hUB.len; omega
    have tA := tsLst (ys := []) hA
    refine ⟨_, rfl, _, _, _, _, rfl, rfl, .of hH', atI_nat (j := 0) rfl, .inl ⟨rfl, _, .of hA⟩, A1, wa, rfl, rfl, hA, ?_⟩
    have gH : upd H0' A1 (.lst []) Hd = some (.lst [.ref A1, .ref B1]) := by rw [upd_ne nHA]; exact hH'
    refine ⟨_, rfl, _, _, _, _, rfl, rfl, .of gH, atI_nat (j := 0) rfl, .inl ⟨rfl, _, .of upd_same⟩, _, rfl, _, _, _, _, rfl, rfl, tsTup tA hT', atI_nat (j := 0) rfl, A1, sA, [], wA, rfl, rfl, upd_same, by rw [upd_ne nA1]; exact hsA', by simp; omega, ?_⟩
    have tA2 := TS.trans tA (tsLst (ys := [] ++ wA) (show upd H0' A1 (.lst []) A1 = some (.lst []) from upd_same))
    have gB : upd (upd H0' A1 (.lst [])) A1 (.lst ([] ++ wA)) B1 = some (.lst wb) := by rw [upd_ne (Ne.symm nAB), upd_ne (Ne.symm nAB)]; exact hB
    have gH2 : upd (upd H0' A1 (.lst [])) A1 (.lst ([] ++ wA)) Hd = some (.lst [.ref A1, .ref B1]) := by rw [upd_ne nHA, upd_ne nHA]; exact hH'
    refine ⟨_, rfl, _, _, _, _, rfl, rfl, .of gH2, atI_nat (j := 1) rfl, .inl ⟨rfl, _, .of gB⟩, B1, wb, rfl, rfl, gB, ?_⟩
    have gH3 : upd (upd (upd H0' A1 (.lst [])) A1 (.lst ([] ++ wA))) B1 (.lst []) Hd = some (.lst [.ref A1, .ref B1]) := by rw [upd_ne nHB]; exact gH2
    have tA3 := TS.trans tA2 (tsLst (ys := []) gB)
    refine ⟨_, rfl, _, _, _, _, rfl, rfl, .of gH3, atI_nat (j := 1) rfl, .inl ⟨rfl, _, .of upd_same⟩, _, rfl, _, _, _, _, rfl, rfl, tsTup tA3 hT', atI_nat (j := 1) rfl, B1, sB, [], uB, rfl, rfl, upd_same, by rw [upd_ne nB2, upd_ne nB1, upd_ne nB1]; exact hsB', by simp; omega, ?_⟩
    have tA4 := TS.trans tA3 (tsLst (ys := [] ++ uB) (show upd (upd (upd H0' A1 (.lst [])) A1 (.lst ([] ++ wA))) B1 (.lst []) B1 = some (.lst []) from upd_same))
    have bq : But2 A1 B1 H0' (upd (upd (upd (upd H0' A1 (.lst [])) A1 (.lst ([] ++ wA))) B1 (.lst [])) B1 (.lst ([] ++ uB))) := fun b o n1 n2 h => by rw [upd_ne n2, upd_ne n2, upd_ne n1, upd_ne n1]; exact h
    have qA : upd (upd (upd (upd H0' A1 (.lst [])) A1 (.lst ([] ++ wA))) B1 (.lst [])) B1 (.lst ([] ++ uB)) A1 = some (.lst wA) := by rw [upd_ne nAB, upd_ne nAB, upd_same]; rfl
    have qB : upd (upd (upd (upd H0' A1 (.lst [])) A1 (.lst ([] ++ wA))) B1 (.lst [])) B1 (.lst ([] ++ uB)) B1 = some (.lst uB) := by rw [upd_same]; rfl
    generalize upd (upd (upd (upd H0' A1 (.lst [])) A1 (.lst ([] ++ wA))) B1 (.lst [])) B1 (.lst ([] ++ uB)) = Hq at *
    have bq6 := But2.trans b6 bq
    have tq := but2TS bq6 hA6 hB6
    have hHq := bq6 _ _ nHA nHB hH6
    have hWq := priTS tq hWA
    have hUq : A2 (SumIn K Hq) uB ss' := A2.map (B' := ss') (fun _ _ _ r => tsSum tq r) (fun _ m => m) hUB
    refine ⟨_, rfl, _, _, _, _, rfl, rfl, .of hHq, atI_nat (j := 0) rfl, _, rfl, _, _, _, _, rfl, rfl, .of hHq, atI_nat (j := 1) rfl, A1, B1, wA, uB, st', ss', rfl, qA, hWq, qB, hUq, hst', hsw', l1', l6', fun H7 r tv fv s7 hr hTold => ?_⟩
    have b7 := But2.trans bq6 (but2Of s7)
    have tq7 := but2TS b7 hA6 hB6
    have hT7 : SqT K H7 T [.ref sA, .ref sB] := .of ((tq7 T).1 _ hT)
    have hW7 := priTS tq7 hWA
    have hU7 : A2 (SumIn K H7) uB ss' := A2.map (B' := ss') (fun _ _ _ r => tsSum tq7 r) (fun _ m => m) hUB
    refine ⟨_, rfl, _, rfl, _, _, _, _, rfl, rfl, hT7, atI_nat (j := 0) rfl, _, rfl, _, _, _, _, rfl, rfl, hT7, atI_nat (j := 1) rfl, by show 2 ≤ sizeLine; decide, fun W nW => ?_⟩
    have sW := sameNew (o := .lst [.ref sA, .ref sB]) nW
    have lyA : Ly 5 (.list [.list (st'.map dIv), .list (ss'.map dS)]) := lyLst (lyCons (lyIvs st') (lyCons (lySms ss') (lyNil 4)))
    have s7W := Same.trans s7 sW
    have hWW := priTS (tsOf sW) hW7
    have hUW : A2 (SumIn K (upd H7 W (.lst [.ref sA, .ref sB]))) uB ss' := A2.map (B' := ss') (fun _ _ _ r => SumIn.mono sW r) (fun _ m => m) hU7
    refine ⟨.list [.list (st'.map dIv), .list (ss'.map dS)], .list [.list (st'.map dIv), .list (ss'.map dS)],
      .lst (.of (s7W _ _ hHq)) (.cons (.lst (.of (s7W _ _ qA)) (dpIvs hWW)) (.cons (.lst (.of (s7W _ _ qB)) (dpSms hUW)) .nil)),
      .lst (.of upd_same) (.cons (.lst (.of (sW _ _ (b7 _ _ nA1 nA2 hsA))) (dpIvs hWW)) (.cons (.lst (.of (sW _ _ (b7 _ _ nB1 nB2 hsB))) (dpSms hUW)) .nil)), lyA.shaped (by decide), lyA.shaped (by decide), _, rfl, ?_⟩
    rw [lyA.same]
    refine iteF ?_
    have hrW := tupS sW hr
    refine ⟨_, rfl, _, _, _, _, true, rfl, .ty _, tyTup hrW, kit_ty (by decide +kernel), _, rfl, ?_⟩
    refine iteF ?_
    refine ⟨_, rfl, _, _, rfl, .inr hrW, rfl, _, rfl, ?_⟩
    refine notDec (fun c => absurd rfl c) (fun _ => ?_)
    refine ⟨But2.trans b7 (but2Of sW), wA, uB, _, _, rfl, s7W _ _ qA, s7W _ _ qB, fun h3 => ?_⟩
    obtain ⟨rfl, rfl⟩ := hlast (by omega)
    refine ⟨r, tv, fv, Hq, rfl, hrW, ?_⟩
    rcases hTold with ⟨e, t, ht, hT⟩ | ⟨e, fa, fs, ef, nf, hf, hm, hh⟩
    · exact .inl ⟨e, t, trTS (tsOf sW) ht, hT⟩
    · exact .inr ⟨e, fa, fs, ef, nf, sW _ _ hf, hm, hh⟩
  obtain ⟨b6, wa, wb, y7, y8, rfl, hA, hB, h3⟩ := p
  obtain ⟨r, tv, fv, Hq, rfl, hr, hTold⟩ := h3 rfl
  have ts6 := but2TS b6 hA6 hB6
  refine ⟨_, rfl, _, _, rfl, hr, rfl, _, _, rfl, _, _, rfl, rfl, ?_⟩
  have ngA : Dg ≠ A1 := fun z => by rw [z, nA] at hgv; cases hgv
  have ngB : Dg ≠ B1 := fun z => by rw [z, nB4] at hgv; cases hgv
  have hgv' := b6 _ _ ngA ngB (s46 _ _ hgv)
  have hG' : A2 (FIn K H') gv ((allIn st).filter (holds ss)) := A2.map (B' := (allIn st).filter (holds ss)) (fun _ _ _ ⟨x, e0, h1⟩ => ⟨x, e0, b6 _ _ (fun z => by rw [z, nA] at h1; cases h1) (fun z => by rw [z, nB4] at h1; cases h1) (s46 _ _ h1)⟩) (fun _ m => m) hG4
  refine ⟨_, rfl, by show 0 ≤ sizeLine; decide, fun E1 nE => ?_⟩
  have sE := sameNew (o := .lst []) nE
  have lyG := lyFs ((allIn st).filter (holds ss))
  refine ⟨.list (((allIn st).filter (holds ss)).map fun f => PyData.list (dI f)), .list [], .lst (.of (sE _ _ hgv')) (dpFs (finSame sE hG')), .lst (.of upd_same) .nil, lyG.shaped (by decide), (lyLst (lyNil 1)).shaped (by decide), _, rfl, ?_⟩
  rw [eqvNilF]
  have hw2 : ∀ s ∈ ss, s.1.length = st.length := fun s hs => (hsw s hs).1
  refine notDec (fun c => ?_) (fun c => ?_)
  · rcases hTold with ⟨e, t, ht, hT⟩ | ⟨rfl, fa, fs, rfl, nf, hf, hm, hh⟩
    · refine absurd (List.filter_eq_nil_iff.mpr fun f hf => ?_) c
      rw [tree_none hT hw2 f hf]
      exact Bool.false_ne_true
    have hf2 := sE _ _ hf
    refine ⟨_, rfl, rfl, _, rfl, ?_⟩
    rw [decide_eq_true rfl]
    refine iteT ⟨_, rfl, _, _, _, _, true, rfl, .ty _, tyLst (.of hf2), kit_ty (by decide +kernel), _, rfl, ?_⟩
    refine iteT ⟨_, rfl, _, rfl, .list (dI fs), ((allIn st).filter (holds ss)).map fun f => PyData.list (dI f), .lst (.of hf2) (dpInts fs), .lst (.of (sE _ _ hgv')) (dpFs (finSame sE hG')), (lyLst (lyInts fs)).shaped (by decide), lyG.shaped (by decide), ?_⟩
    rw [goodAny (List.mem_filter.mpr ⟨hm, hh⟩)]
    exact q _
  · rcases hTold with ⟨rfl, t, ht, hT⟩ | ⟨rfl, fa, fs, rfl, nf, hf, hm, hh⟩
    · have dp := deep_le t hT
      have sz : size st ≤ 9 * st.length := by
        exact size_le fun p hp => by have := hst.2.2.1 p hp; omega
      refine ⟨_, rfl, rfl, _, rfl, ?_⟩
      rw [decide_eq_true rfl]
      refine iteF ?_
      have tsE := TS.trans ts6 (tsOf sE)
      have hSE : StrIn K (upd H' E1 (.lst [])) sa st := ⟨ws, .of (sE _ _ (b6 _ _ nsA nsB hsa6)), priTS tsE hW6⟩
      have hDE := sE _ _ (b6 _ _ nDA nDB hD6)
      have hUE : A2 (SumIn K (upd H' E1 (.lst []))) us ss := A2.map (B' := ss) (fun _ _ _ r => tsSum tsE r) (fun _ m => m) hUs6
      have htE := trTS (tsOf sE) ht
      refine ⟨_, rfl, _, rfl, _, rfl, sa, D, tv, st, us, ss, t, rfl, hSE, .of hDE, hUE, fun s hs => ⟨hw2 s hs, (hsw s hs).2.1⟩, by omega, htE, by omega, fun H8 s8 => ?_⟩
      rw [hT]
      refine ⟨_, rfl, ?_⟩
      refine iteF ?_
      have sS : SqL K H8 a (ns.map V.int) := by
        exact Same.seq s8 (Same.seq sE (seqBut2 b6 s46 nA nB4 (Same.seq (Same.trans s2 s24) hS1)))
      exact ⟨_, rfl, _, rfl, _, rfl, _, rfl, sa, D, a, tv, st, us, ss, t, ns, rfl, hSE.same s8, .of (s8 _ _ hDE), A2.map (B' := ss) (fun _ _ _ r => SumIn.mono s8 r) (fun _ m => m) hUE, hst, hsw, l6.2, trTS (tsOf s8) htE, by omega, sS, h63, fun H9 s9 => q _⟩
    · have : fs ∈ (allIn st).filter (holds ss) := List.mem_filter.mpr ⟨hm, hh⟩
      rw [c] at this
      cases this

end

end LW

namespace LW
open PySem PySem.Spec PyProof.Rows L2
local macro_rules | `(tactic| walk_at "go1") => `(tactic| first
  | refine ⟨_, rfl, ?_⟩
  | refine ⟨_, _, rfl, rfl, ?_⟩
  | refine ⟨show (0 : Int) < _ from by omega, ?_⟩
  | refine ⟨show CMul _ _ from by first | exact .inl ⟨by omega, by omega⟩ | exact .inr ⟨by omega, by omega⟩, ?_⟩
  | refine ⟨show CDiv _ _ from ⟨by omega, by omega⟩, ?_⟩)
local macro_rules | `(tactic| walk_at "go") => `(tactic| repeat walk_at "go1")

section
variable {P : Program} {w : World} {K : PySem.W.Frag} {mg : Str → Option Value} {base : Heap}

abbrev s__least_and_most : Stmt := topS 6
theorem sc__least_and_most : FnScope ["one", "stretch", "numbers", "least", "most", "number", "low", "high"] ["one", "stretch"] (defScope s__least_and_most) := ⟨rfl, rfl, rfl, by decide +kernel, rfl, by decide +kernel, by decide +kernel⟩

def spLM (K : PySem.W.Frag) : Sp := fun vs H Q _ => ∃ (v : V) (a : Addr) (s : Sm) (st : List Iv), vs = [v, .ref a] ∧ SumIn K H v s ∧ StrIn K H a st ∧ s.1.length = st.length ∧ st.length ≤ 1000 ∧ (∀ n ∈ s.1, Wd 1000 n) ∧ (∀ p ∈ st, Wd 1000 p.1 ∧ Wd 1000 p.2) ∧
  ∀ (r : Addr) (H' : Hp), H r = none → Same H H' → H' r = some (.tup [.int (leastP s st), .int (mostP s st)]) → Q (.ref r) H'
theorem ok__least_and_most {f : Addr} {fd : FuncData} {k : Nat} (F : Fun K "_least_and_most" "_least_and_most" s__least_and_most f fd) (B : Bl mg) : FnOk P w K mg base CX0 (k + 1) f fd ["one", "stretch"] (spLM K) := by
  refine F.ok sc__least_and_most (fun vs H Q E h => ?_) (fun cdv A outer s H vs Q E hr h => ?_)
  · obtain ⟨v, a, s, st, rfl, _⟩ := h
    rfl
  obtain ⟨v, a, ⟨ns, l⟩, st, rfl, ⟨b, t, rfl, h1, h2⟩, ⟨ws, hS, hW⟩, hl, hz, hn, hb, q⟩ := h
  dsimp only at h1 h2 hl hn q
  refine ⟨_, (pss_cons (ps_asg (pv 0) (kT2 (K := K) rfl rfl (pg_name (i := 2) sc__least_and_most.nd rfl (.inl rfl)) (pg_name (i := 3) sc__least_and_most.nd rfl (.inl rfl))))
    (pss_cons (ps_set (i := 4) sc__least_and_most.nd rfl (.inl rfl) (pv 3))
    (pss_cons (ps_for PassesOwn.never rfl (kZ (K := K) rfl true false (by rfl) B.zip (pa_cons (pv 2) (pa_cons (pv 1) pa_nil))) (kT2 (K := K) rfl rfl (pg_name (i := 5) sc__least_and_most.nd rfl (.inl rfl)) (kT2 (K := K) rfl rfl (pg_name (i := 6) sc__least_and_most.nd rfl (.inl rfl)) (pg_name (i := 7) sc__least_and_most.nd rfl (.inl rfl))))
      (pss_one (ps_if (pt_cmpR op_gt (pv 5) pe_int (nomark _))
        (pss_cons (ps_aug (i := 3) sc__least_and_most.nd rfl (.inl rfl) (pe_op op_mulW (pv 5) (pv 6)) ip_add)
        (pss_one (ps_aug (i := 4) sc__least_and_most.nd rfl (.inl rfl) (pe_op op_mulW (pv 5) (pv 7)) ip_add)))
        (pss_cons (ps_aug (i := 3) sc__least_and_most.nd rfl (.inl rfl) (pe_op op_mulW (pv 5) (pv 7)) ip_add)
        (pss_one (ps_aug (i := 4) sc__least_and_most.nd rfl (.inl rfl) (pe_op op_mulW (pv 5) (pv 6)) ip_add))))))
    (pss_one (ps_ret (pe_tup (pa_cons (pv 3) (pa_cons (pv 4) pa_nil)))))))), ?_⟩
  have lw := hW.len
  refine ⟨_, rfl, _, _, rfl, h1, rfl, _, _, rfl, _, _, rfl, rfl, ?_⟩
  refine ⟨_, rfl, ?_⟩
  refine ⟨_, rfl, _, rfl, _, _, _, _, rfl, h2, hS, ?_⟩
  refine for_it (walkZ (xs := ns.map V.int) (ys := ws) (n := ns.length) (by simp; omega)) (fun i σ H' => Same H H' ∧ ∃ (y5 y6 y7 : Option V), σ = [some (.ref b), some (.ref a), some (.ref t), some (.int (leastP (ns.take i, l) (st.take i))), some (.int (mostP (ns.take i, l) (st.take i))), y5, y6, y7])
    ⟨Same.refl _, none, none, none, by simp [leastP, mostP, lowP, highP]; rfl⟩ (fun i σ H' _ p => ⟨tupS p.1 h2, Same.seq p.1 hS⟩) (fun i x σ H1 H2 hi p y => ?_) (fun σ H' p => ?_)
  · obtain ⟨sm, y5, y6, y7, rfl⟩ := p
    obtain ⟨T, x1, x2, rfl, nT, rfl, e1, e2⟩ := y
    have i2 : i < st.length := by omega
    have f1 := mapAt e1 hi
    subst f1
    obtain ⟨p, ep, ⟨tp, rfl, hp⟩⟩ := A2.at hW e2
    have hbp := hb p (List.mem_of_getElem? ep)
    have sm2 := Same.trans sm (sameNew (o := .tup [.int ns[i], .ref tp]) nT)
    refine ⟨_, _, rfl, .of upd_same, rfl, _, _, rfl, _, _, rfl, ⟨_, _, rfl, tupS sm2 hp, rfl, _, _, rfl, _, _, rfl, rfl, rfl, ?_⟩⟩
    have tk := lowP_take (a := ns) (b := st) (i := i) (List.getElem?_eq_getElem hi) ep
    have w1 := hn _ (List.getElem_mem hi)
    refine ⟨_, rfl, _, _, rfl, rfl, _, rfl, ?_⟩
    refine yesDec (fun c => ?_) (fun c => ?_)
    · rw [if_pos c, if_pos c] at tk
      refine ⟨_, rfl, _, rfl, _, rfl, _, _, rfl, rfl, Wd.mulOk w1 hbp.1 (by decide) (by decide) (by decide), _, _, rfl, rfl, ?_⟩
      refine ⟨_, rfl, _, rfl, _, rfl, _, _, rfl, rfl, Wd.mulOk w1 hbp.2 (by decide) (by decide) (by decide), _, _, rfl, rfl, ?_⟩
      refine ⟨sm2, some (.int ns[i]), some (.int p.1), some (.int p.2), ?_⟩
      simp only [leastP, mostP, tk.1, tk.2, ← Int.add_assoc]
      rfl
    · rw [if_neg c, if_neg c] at tk
      refine ⟨_, rfl, _, rfl, _, rfl, _, _, rfl, rfl, Wd.mulOk w1 hbp.2 (by decide) (by decide) (by decide), _, _, rfl, rfl, ?_⟩
      refine ⟨_, rfl, _, rfl, _, rfl, _, _, rfl, rfl, Wd.mulOk w1 hbp.1 (by decide) (by decide) (by decide), _, _, rfl, rfl, ?_⟩
      refine ⟨sm2, some (.int ns[i]), some (.int p.1), some (.int p.2), ?_⟩
      simp only [leastP, mostP, tk.1, tk.2, ← Int.add_assoc]
      rfl
  · obtain ⟨sm, y5, y6, y7, rfl⟩ := p
    refine ⟨_, rfl, _, rfl, by show 2 ≤ sizeLine; decide, fun R nR => ?_⟩
    have e1 : ns.take ns.length = ns := List.take_length
    have e2 : st.take ns.length = st := by rw [hl]; exact List.take_length
    rw [e1, e2]
    exact q R _ (Same.free sm nR) (Same.trans sm (sameNew nR)) upd_same
abbrev s__cut : Stmt := topS 5
theorem sc__cut : FnScope ["stretch", "box", "at", "low", "high", "lower", "upper"] ["stretch", "box", "at"] (defScope s__cut) := ⟨rfl, rfl, rfl, by decide +kernel, rfl, by decide +kernel, by decide +kernel⟩

def spCut (K : PySem.W.Frag) : Sp := fun vs H Q _ => ∃ (a : Addr) (ws : List V) (st : List Iv) (n c : Int) (p : Iv), vs = [.ref a, .int n, .int c] ∧ SqL K H a ws ∧ A2 (PrI K H) ws st ∧ 0 ≤ n ∧ st[n.toNat]? = some p ∧ st.length ≤ 1000 ∧
  ∀ (r l u : Addr) (ws1 ws2 : List V) (H' : Hp), H r = none → H l = none → H u = none → Same H H' → H' r = some (.tup [.ref l, .ref u]) → H' l = some (.lst ws1) → A2 (PrI K H') ws1 (below st n.toNat p c) → H' u = some (.lst ws2) → A2 (PrI K H') ws2 (above st n.toNat p c) → Q (.ref r) H'
theorem ok__cut {f : Addr} {fd : FuncData} {k : Nat} (F : Fun K "_cut" "_cut" s__cut f fd) (B : Bl mg) : FnOk P w K mg base CX0 (k + 1) f fd ["stretch", "box", "at"] (spCut K) := by
  refine F.ok sc__cut (fun vs H Q E h => ?_) (fun cdv A outer s H vs Q E hr h => ?_)
  · obtain ⟨a, ws, st, n, c, p, rfl, _⟩ := h
    rfl
  obtain ⟨a, ws, st, n, c, p, rfl, hS, hW, h0, ep, hz, q⟩ := h
  refine ⟨_, (pss_cons (ps_asg (pe_ix (kIxL (K := K) rfl) (pv 0) (pv 1) (fun _ _ => rfl)) (kT2 (K := K) rfl rfl (pg_name (i := 3) sc__cut.nd rfl (.inl rfl)) (pg_name (i := 4) sc__cut.nd rfl (.inl rfl))))
    (pss_cons (ps_par (i := 5) (j := 6) rfl sc__cut.nd rfl rfl (by decide) rfl rfl (pa_cons (pe_callTy (kList (K := K) rfl) (by rfl) B.list (by decide +kernel) (pa_cons (pv 0) pa_nil)) (pa_cons (pe_callTy (kList (K := K) rfl) (by rfl) B.list (by decide +kernel) (pa_cons (pv 0) pa_nil)) pa_nil)) (by rfl))
    (pss_cons (ps_asg (pe_tup (pa_cons (pv 3) (pa_cons (pv 2) pa_nil))) (pg_sub (pv 5) (pv 1) set_list))
    (pss_cons (ps_asg (pe_tup (pa_cons (pe_op op_add (pv 2) pe_int) (pa_cons (pv 4) pa_nil))) (pg_sub (pv 6) (pv 1) set_list))
    (pss_one (ps_ret (pe_tup (pa_cons (pv 5) (pa_cons (pv 6) pa_nil))))))))), ?_⟩
  obtain ⟨j, rfl⟩ : ∃ j : Nat, n = (j : Int) := ⟨n.toNat, by omega⟩
  rw [Int.toNat_natCast] at ep q
  have lw := hW.len
  have hj := (List.getElem?_eq_some_iff.mp ep).1
  obtain ⟨w0, ew, ⟨tp, rfl, hp⟩⟩ := A2.atR hW ep
  refine ⟨_, rfl, _, rfl, _, _, _, _, rfl, rfl, hS, atI_nat ew, ?_⟩
  refine ⟨_, _, rfl, hp, rfl, _, _, rfl, _, _, rfl, rfl, ?_⟩
  refine ⟨_, rfl, a, ws, rfl, .inl hS, fun l nl => ?_⟩
  have s1 := sameNew (o := .lst ws) nl
  refine ⟨_, rfl, a, ws, rfl, .inl (Same.seq s1 hS), fun u nu => ?_⟩
  have s2 := Same.trans s1 (sameNew (o := .lst ws) nu)
  have nul : u ≠ l := fun e => by rw [e, upd_same] at nu; cases nu
  refine ⟨_, _, rfl, ?_⟩
  have hu : ∀ {o : HO}, upd (upd H l o) u (.lst ws) l = some o := by
    intro o
    rw [upd_ne (Ne.symm nul), upd_same]
  -- lower[box] = (low, at)
  refine ⟨_, rfl, _, rfl, by show 2 ≤ sizeLine; decide, fun T nT => ?_⟩
  have nTl : T ≠ l := fun e => by rw [e, upd_ne (Ne.symm nul), upd_same] at nT; cases nT
  have nTu : T ≠ u := fun e => by rw [e, upd_same] at nT; cases nT
  refine ⟨_, rfl, _, rfl, l, ws, (j : Int), j, rfl, rfl, by rw [upd_ne (Ne.symm nTl)]; exact hu, ixN_nat (by omega), ?_⟩
  have s4 : Same H (upd (upd (upd (upd H l (.lst ws)) u (.lst ws)) T (.tup [.int p.1, .int c])) l (.lst (ws.set j (.ref T)))) := sameMut (Same.trans s2 (sameNew nT)) nl
  have eT : upd (upd (upd (upd H l (.lst ws)) u (.lst ws)) T (.tup [.int p.1, .int c])) l (.lst (ws.set j (.ref T))) T = some (.tup [.int p.1, .int c]) := by rw [upd_ne nTl, upd_same]
  have el : upd (upd (upd (upd H l (.lst ws)) u (.lst ws)) T (.tup [.int p.1, .int c])) l (.lst (ws.set j (.ref T))) l = some (.lst (ws.set j (.ref T))) := upd_same
  have eu : upd (upd (upd (upd H l (.lst ws)) u (.lst ws)) T (.tup [.int p.1, .int c])) l (.lst (ws.set j (.ref T))) u = some (.lst ws) := by rw [upd_ne nul, upd_ne (Ne.symm nTu), upd_same]
  have nu0 : H u = none := Same.free s1 nu
  generalize upd (upd (upd (upd H l (.lst ws)) u (.lst ws)) T (.tup [.int p.1, .int c])) l (.lst (ws.set j (.ref T))) = H4 at *
  clear nT nu s1 s2 hu nTu nTl
  -- upper[box] = (at + 1, high)
  refine ⟨_, rfl, _, _, rfl, rfl, _, rfl, by show 2 ≤ sizeLine; decide, fun T2 nT2 => ?_⟩
  have nT2u : T2 ≠ u := fun e => by rw [e, eu] at nT2; cases nT2
  have nT2l : T2 ≠ l := fun e => by rw [e, el] at nT2; cases nT2
  have nT2T : T2 ≠ T := fun e => by rw [e, eT] at nT2; cases nT2
  refine ⟨_, rfl, _, rfl, u, ws, (j : Int), j, rfl, rfl, by rw [upd_ne (Ne.symm nT2u)]; exact eu, ixN_nat (by omega), ?_⟩
  have s5 : Same H (upd (upd H4 T2 (.tup [.int (c + 1), .int p.2])) u (.lst (ws.set j (.ref T2)))) := sameMut (Same.trans s4 (sameNew nT2)) nu0
  refine ⟨_, rfl, _, rfl, by show 2 ≤ sizeLine; decide, fun R nR => ?_⟩
  have s6 := Same.trans s5 (sameNew (o := .tup [.ref l, .ref u]) nR)
  have nTu : T ≠ u := fun e => by rw [e, eu] at eT; cases eT
  have sR := sameNew (o := .tup [.ref l, .ref u]) nR
  refine q R l u _ _ _ (Same.free s5 nR) nl nu0 s6 upd_same (sR _ _ (by rw [upd_ne (Ne.symm nul), upd_ne (Ne.symm nT2l)]; exact el)) ?_ (sR _ _ upd_same) ?_
  · rw [below, ← setAt hj]
    exact (priTS (tsOf s6) hW).set ⟨T, rfl, .of (sR _ _ (by rw [upd_ne nTu, upd_ne (Ne.symm nT2T)]; exact eT))⟩
  · rw [above, ← setAt hj]
    exact (priTS (tsOf s6) hW).set ⟨T2, rfl, .of (sR _ _ (by rw [upd_ne nT2u, upd_same]))⟩

end

end LW

namespace LW
open PySem PySem.Spec PyProof.Rows L2
local macro_rules | `(tactic| walk_at "go1") => `(tactic| first
  | refine ⟨_, rfl, ?_⟩
  | refine ⟨_, _, rfl, rfl, ?_⟩
  | refine ⟨show (0 : Int) < _ from by omega, ?_⟩
  | refine ⟨show CMul _ _ from by first | exact .inl ⟨by omega, by omega⟩ | exact .inr ⟨by omega, by omega⟩, ?_⟩
  | refine ⟨show CDiv _ _ from ⟨by omega, by omega⟩, ?_⟩)
local macro_rules | `(tactic| walk_at "go") => `(tactic| repeat walk_at "go1")

section
variable {P : Program} {w : World} {K : PySem.W.Frag} {mg : Str → Option Value} {base : Heap}

/-- a cut that may be made; an end that is well -/
def cutOk (st : List Iv) : Tr → Bool
  | .cut n c _ _ => decide (0 ≤ n) && match st[n.toNat]? with
    | some p => decide (p.1 ≤ c) && decide (c < p.2)
    | none => false
  | .sum _ => false
def endOk (ss : List Sm) (st : List Iv) : Tr → Bool
  | .sum n => decide (0 ≤ n) && match ss[n.toNat]? with
    | some s => decide (0 < leastP s st)
    | none => false
  | .cut _ _ _ _ => false
abbrev s__is_cut : Stmt := topS 7
theorem sc__is_cut : FnScope ["stretch", "part", "_", "box", "at", "low", "high"] ["stretch", "part"] (defScope s__is_cut) := ⟨rfl, rfl, rfl, by decide +kernel, rfl, by decide +kernel, by decide +kernel⟩

def spIC (K : PySem.W.Frag) : Sp := fun vs H Q _ => ∃ (a : Addr) (tv : V) (st : List Iv) (t : Tr), vs = [.ref a, tv] ∧ StrIn K H a st ∧ TrIn K H tv t ∧ st.length ≤ 1000 ∧ ∀ H', Same H H' → Q (.bl (cutOk st t)) H'
theorem ok__is_cut {f : Addr} {fd : FuncData} {k : Nat} (F : Fun K "_is_cut" "_is_cut" s__is_cut f fd) (B : Bl mg) : FnOk P w K mg base CX0 (k + 1) f fd ["stretch", "part"] (spIC K) := by
  refine F.ok sc__is_cut (fun vs H Q E h => ?_) (fun cdv A outer s H vs Q E hr h => ?_)
  · obtain ⟨a, tv, st, t, rfl, _⟩ := h
    rfl
  obtain ⟨a, tv, st, t, rfl, ⟨ws, hS, hW⟩, hT, hz, q⟩ := h
  refine ⟨_, (pss_cons (ps_if (PW.pt (pw_or (pt_cmpR kNeTy (pe_callTy (kType (K := K) rfl) (by rfl) B.type (by decide +kernel) (pa_cons (pv 1) pa_nil)) (pe_bltn (v := .ty "tuple") (by rfl) B.tuple (by decide +kernel) rfl) (nomark _)) (pw_or (pt_cmpR op_ne (pe_callB (kLen (K := K) rfl) (by rfl) B.len PySem.boot_len (pa_cons (pv 1) pa_nil)) pe_int (nomark _)) (pw_or1 (pt_cmpR op_ne (pe_ix (kIxT (K := K) rfl) (pv 1) pe_int (fun _ _ => rfl)) pe_str (nomark _))))))
      (pss_one (ps_ret pe_bl))
      pss_nil)
    (pss_cons (ps_asg (pv 1) (kTn (K := K) rfl rfl (pgs_cons (pg_name (i := 2) sc__is_cut.nd rfl (.inl rfl)) (pgs_cons (pg_name (i := 3) sc__is_cut.nd rfl (.inl rfl)) (pgs_cons (pg_name (i := 4) sc__is_cut.nd rfl (.inl rfl)) (pgs_cons (pg_name (i := 2) sc__is_cut.nd rfl (.inl rfl)) (pgs_cons (pg_name (i := 2) sc__is_cut.nd rfl (.inl rfl)) pgs_nil)))))))
    (pss_cons (ps_if (PW.pt (pw_or (pt_cmpR kNeTy (pe_callTy (kType (K := K) rfl) (by rfl) B.type (by decide +kernel) (pa_cons (pv 3) pa_nil)) (pe_bltn (v := .ty "int") (by rfl) B.int (by decide +kernel) rfl) (nomark _)) (pw_or (pt_cmpR kNeTy (pe_callTy (kType (K := K) rfl) (by rfl) B.type (by decide +kernel) (pa_cons (pv 4) pa_nil)) (pe_bltn (v := .ty "int") (by rfl) B.int (by decide +kernel) rfl) (nomark _)) (pw_or1 (pt_not (pt_chain op_le op_lt pe_int (pv 3) (pe_callB (kLen (K := K) rfl) (by rfl) B.len PySem.boot_len (pa_cons (pv 0) pa_nil))))))))
      (pss_one (ps_ret pe_bl))
      pss_nil)
    (pss_cons (ps_asg (pe_ix (kIxL (K := K) rfl) (pv 0) (pv 3) (fun _ _ => rfl)) (kT2 (K := K) rfl rfl (pg_name (i := 5) sc__is_cut.nd rfl (.inl rfl)) (pg_name (i := 6) sc__is_cut.nd rfl (.inl rfl))))
    (pss_one (ps_ret (pe_chain op_le op_lt (pv 5) (pv 4) (pv 6)))))))), ?_⟩
  have lw := hW.len
  cases hT with
  | @sum p n h =>
    refine ⟨_, rfl, _, _, rfl, .tup h, _, _, rfl, rfl, (TyN.tup h).known, .tup, _, rfl, ?_⟩
    rw [decide_eq_true rfl]
    refine iteF ?_
    refine ⟨_, rfl, _, _, rfl, .inr h, rfl, _, rfl, ?_⟩
    refine iteT ?_
    exact q H (Same.refl _)
  | @cut p n c v w t1 t2 h h1 h2 =>
    refine ⟨_, rfl, _, _, rfl, .tup h, _, _, rfl, rfl, (TyN.tup h).known, .tup, _, rfl, ?_⟩
    rw [decide_eq_true rfl]
    refine iteF ?_
    refine ⟨_, rfl, _, _, rfl, .inr h, rfl, _, rfl, ?_⟩
    refine iteF ?_
    refine ⟨_, rfl, _, _, _, _, rfl, rfl, h, atI_nat (j := 0) rfl, rfl, _, rfl, ?_⟩
    refine iteF ?_
    refine ⟨_, rfl, _, _, rfl, h, rfl, _, _, rfl, _, _, rfl, _, _, rfl, _, _, rfl, _, _, rfl, rfl, ?_⟩
    refine ⟨_, rfl, _, _, rfl, .int _, _, _, rfl, rfl, .int, .int, _, rfl, ?_⟩
    rw [decide_eq_true rfl]
    refine iteF ?_
    refine ⟨_, rfl, _, _, rfl, .int _, _, _, rfl, rfl, .int, .int, _, rfl, ?_⟩
    rw [decide_eq_true rfl]
    refine iteF ?_
    refine ⟨_, rfl, _, _, rfl, rfl, _, rfl, ?_⟩
    refine ifB (fun c0 => ?_) (fun c0 => ?_)
    · have g0 : 0 ≤ n := of_decide_eq_true c0
      refine ⟨_, rfl, _, _, rfl, .inl hS, _, _, rfl, rfl, _, rfl, ?_⟩
      cases e : st[n.toNat]? with
      | none =>
        have hn : ¬ n < (ws.length : Nat) := fun hn => by
          rw [List.getElem?_eq_none_iff] at e
          omega
        rw [decide_eq_false hn]
        refine iteT ?_
        have q' := q H (Same.refl _)
        rw [show cutOk st (.cut n c t1 t2) = false by simp [cutOk, e]] at q'
        exact q'
      | some r =>
        have hj := (List.getElem?_eq_some_iff.mp e).1
        have hn : n < (ws.length : Nat) := by omega
        rw [decide_eq_true hn]
        refine iteF ?_
        obtain ⟨w0, ew, ⟨tp, rfl, hp⟩⟩ := A2.atR hW e
        have en : ((n.toNat : Nat) : Int) = n := by omega
        refine ⟨_, rfl, _, rfl, _, _, _, _, rfl, rfl, hS, by rw [← en]; exact atI_nat ew, ?_⟩
        refine ⟨_, _, rfl, hp, rfl, _, _, rfl, _, _, rfl, rfl, ?_⟩
        have q' := q H (Same.refl _)
        rw [show cutOk st (.cut n c t1 t2) = (decide (r.1 ≤ c) && decide (c < r.2)) by simp [cutOk, e, g0]] at q'
        refine ⟨_, rfl, _, rfl, _, _, rfl, rfl, _, rfl, ?_⟩
        refine ifB (fun c1 => ?_) (fun c1 => ?_)
        · refine ⟨_, rfl, _, _, rfl, rfl, ?_⟩
          rw [c1, Bool.true_and] at q'
          exact q'
        · rw [c1, Bool.false_and] at q'
          exact q'
    · refine ⟨_, rfl, iteT ?_⟩
      have q' := q H (Same.refl _)
      rw [show cutOk st (.cut n c t1 t2) = false by simp [cutOk, c0]] at q'
      exact q'
abbrev s__is_end : Stmt := topS 8
theorem sc__is_end : FnScope ["stretch", "some", "part", "number", "least", "_"] ["stretch", "some", "part"] (defScope s__is_end) := ⟨rfl, rfl, rfl, by decide +kernel, rfl, by decide +kernel, by decide +kernel⟩

def spIE (K : PySem.W.Frag) : Sp := fun vs H Q _ => ∃ (a b : Addr) (tv : V) (us : List V) (ss : List Sm) (st : List Iv) (t : Tr), vs = [.ref a, .ref b, tv] ∧ StrIn K H a st ∧ SqL K H b us ∧ A2 (SumIn K H) us ss ∧ TrIn K H tv t ∧ st.length ≤ 1000 ∧ (∀ s ∈ ss, s.1.length = st.length ∧ ∀ n ∈ s.1, Wd 1000 n) ∧ (∀ p ∈ st, Wd 1000 p.1 ∧ Wd 1000 p.2) ∧ ∀ H', Same H H' → Q (.bl (endOk ss st t)) H'
theorem ok__is_end {f : Addr} {fd : FuncData} {k : Nat} (F : Fun K "_is_end" "_is_end" s__is_end f fd) (B : Bl mg) (c__least_and_most : C8.Cal P w K mg base k "_least_and_most" (spLM K) []) : FnOk P w K mg base CX0 (k + 1) f fd ["stretch", "some", "part"] (spIE K) := by
  refine F.ok sc__is_end (fun vs H Q E h => ?_) (fun cdv A outer s H vs Q E hr h => ?_)
  · obtain ⟨a, b, tv, us, ss, st, t, rfl, _⟩ := h
    rfl
  obtain ⟨a, b, tv, us, ss, st, t, rfl, hS, hB, hU, hT, hz, hs, hb, q⟩ := h
  refine ⟨_, (pss_cons (ps_if (PW.pt (pw_or (pt_cmpR kNeTy (pe_callTy (kType (K := K) rfl) (by rfl) B.type (by decide +kernel) (pa_cons (pv 2) pa_nil)) (pe_bltn (v := .ty "tuple") (by rfl) B.tuple (by decide +kernel) rfl) (nomark _)) (pw_or (pt_cmpR op_ne (pe_callB (kLen (K := K) rfl) (by rfl) B.len PySem.boot_len (pa_cons (pv 2) pa_nil)) pe_int (nomark _)) (pw_or1 (pt_cmpR op_ne (pe_ix (kIxT (K := K) rfl) (pv 2) pe_int (fun _ _ => rfl)) pe_str (nomark _))))))
      (pss_one (ps_ret pe_bl))
      pss_nil)
    (pss_cons (ps_set (i := 3) sc__is_end.nd rfl (.inl rfl) (pe_ix (kIxT (K := K) rfl) (pv 2) pe_int (fun _ _ => rfl)))
    (pss_cons (ps_if (PW.pt (pw_or (pt_cmpR kNeTy (pe_callTy (kType (K := K) rfl) (by rfl) B.type (by decide +kernel) (pa_cons (pv 3) pa_nil)) (pe_bltn (v := .ty "int") (by rfl) B.int (by decide +kernel) rfl) (nomark _)) (pw_or1 (pt_not (pt_chain op_le op_lt pe_int (pv 3) (pe_callB (kLen (K := K) rfl) (by rfl) B.len PySem.boot_len (pa_cons (pv 1) pa_nil)))))))
      (pss_one (ps_ret pe_bl))
      pss_nil)
    (pss_cons (ps_asg (C8.pe_c c__least_and_most hr (Nat.le_refl _) (by rfl) (pa_cons (pe_ix (kIxL (K := K) rfl) (pv 1) (pv 3) (fun _ _ => rfl)) (pa_cons (pv 0) pa_nil))) (kT2 (K := K) rfl rfl (pg_name (i := 4) sc__is_end.nd rfl (.inl rfl)) (pg_name (i := 5) sc__is_end.nd rfl (.inl rfl))))
    (pss_one (ps_ret (pe_cmpR op_gt (pv 4) pe_int (nomark _)))))))), ?_⟩
  have lu := hU.len
  cases hT with
  | @cut p n c v w t1 t2 h h1 h2 =>
    refine ⟨_, rfl, _, _, rfl, .tup h, _, _, rfl, rfl, (TyN.tup h).known, .tup, _, rfl, ?_⟩
    rw [decide_eq_true rfl]
    refine iteF ?_
    refine ⟨_, rfl, _, _, rfl, .inr h, rfl, _, rfl, ?_⟩
    refine iteT ?_
    exact q H (Same.refl _)
  | @sum p n h =>
    refine ⟨_, rfl, _, _, rfl, .tup h, _, _, rfl, rfl, (TyN.tup h).known, .tup, _, rfl, ?_⟩
    rw [decide_eq_true rfl]
    refine iteF ?_
    refine ⟨_, rfl, _, _, rfl, .inr h, rfl, _, rfl, ?_⟩
    refine iteF ?_
    refine ⟨_, rfl, _, _, _, _, rfl, rfl, h, atI_nat (j := 0) rfl, rfl, _, rfl, ?_⟩
    refine iteF ?_
    refine ⟨_, rfl, _, _, _, _, rfl, rfl, h, atI_nat (j := 1) rfl, ?_⟩
    refine ⟨_, rfl, _, _, rfl, .int _, _, _, rfl, rfl, .int, .int, _, rfl, ?_⟩
    rw [decide_eq_true rfl]
    refine iteF ?_
    refine ⟨_, rfl, _, _, rfl, rfl, _, rfl, ?_⟩
    refine ifB (fun c0 => ?_) (fun c0 => ?_)
    · have g0 : 0 ≤ n := of_decide_eq_true c0
      refine ⟨_, rfl, _, _, rfl, .inl hB, _, _, rfl, rfl, _, rfl, ?_⟩
      cases e : ss[n.toNat]? with
      | none =>
        have hn : ¬ n < (us.length : Nat) := fun hn => by
          rw [List.getElem?_eq_none_iff] at e
          omega
        rw [decide_eq_false hn]
        refine iteT ?_
        have q' := q H (Same.refl _)
        rw [show endOk ss st (.sum n) = false by simp [endOk, e]] at q'
        exact q'
      | some s0 =>
        have hj := (List.getElem?_eq_some_iff.mp e).1
        have hn : n < (us.length : Nat) := by omega
        rw [decide_eq_true hn]
        refine iteF ?_
        obtain ⟨w0, ew, hw⟩ := A2.atR hU e
        have en : ((n.toNat : Nat) : Int) = n := by omega
        have hs0 := hs s0 (List.mem_of_getElem? e)
        refine ⟨_, rfl, _, rfl, _, _, _, _, rfl, rfl, hB, by rw [← en]; exact atI_nat ew, _, rfl, w0, a, s0, st, rfl, hw, hS, hs0.1, hz, hs0.2, hb, fun r H1 nr s1 er => ?_⟩
        refine ⟨_, _, rfl, .of er, rfl, _, _, rfl, _, _, rfl, rfl, ?_⟩
        have q' := q H1 s1
        rw [show endOk ss st (.sum n) = decide (0 < leastP s0 st) by simp [endOk, e, g0]] at q'
        exact ⟨_, rfl, _, _, rfl, rfl, q'⟩
    · refine ⟨_, rfl, iteT ?_⟩
      have q' := q H (Same.refl _)
      rw [show endOk ss st (.sum n) = false by simp [endOk, c0]] at q'
      exact q'

end

end LW

namespace LW
open PySem PySem.Spec PyProof.Rows L2
local macro_rules | `(tactic| walk_at "go1") => `(tactic| first
  | refine ⟨_, rfl, ?_⟩
  | refine ⟨_, _, rfl, rfl, ?_⟩
  | refine ⟨show (0 : Int) < _ from by omega, ?_⟩
  | refine ⟨show CMul _ _ from by first | exact .inl ⟨by omega, by omega⟩ | exact .inr ⟨by omega, by omega⟩, ?_⟩
  | refine ⟨show CDiv _ _ from ⟨by omega, by omega⟩, ?_⟩)
local macro_rules | `(tactic| walk_at "go") => `(tactic| repeat walk_at "go1")

section
variable {P : Program} {w : World} {K : PySem.W.Frag} {mg : Str → Option Value} {base : Heap}

def Tr.nodes : Tr → Nat
  | .sum _ => 1
  | .cut _ _ a b => a.nodes + b.nodes + 1
theorem Tr.deep_pos : ∀ t : Tr, 1 ≤ t.deep
  | .sum _ => Nat.le_refl _
  | .cut _ _ _ _ => Nat.le_add_left ..
/-- stretches as they are cut up -/
def StrG (n : Nat) (st : List Iv) : Prop := st.length = n ∧ ∀ p ∈ st, -1000 ≤ p.1 ∧ p.1 ≤ p.2 ∧ p.2 ≤ 1000
theorem strG_below {n : Nat} {st : List Iv} {j : Nat} {p : Iv} {c : Int} (h : StrG n st) (e : st[j]? = some p) (h1 : p.1 ≤ c) (h2 : c < p.2) : StrG n (below st j p c) ∧ StrG n (above st j p c) := by
  have hj := (List.getElem?_eq_some_iff.mp e).1
  have hp := h.2 p (List.mem_of_getElem? e)
  have key : ∀ r : Iv, -1000 ≤ r.1 ∧ r.1 ≤ r.2 ∧ r.2 ≤ 1000 → StrG n (st.take j ++ [r] ++ st.drop (j + 1)) := fun r hr => by
    refine ⟨by have := h.1; simp; omega, fun q hq => ?_⟩
    rcases List.mem_append.mp hq with hq | hq
    · rcases List.mem_append.mp hq with hq | hq
      · exact h.2 q (List.mem_of_mem_take hq)
      · rw [List.mem_singleton.mp hq]
        exact hr
    · exact h.2 q (List.mem_of_mem_drop hq)
  exact ⟨key _ (by dsimp only; omega), key _ (by dsimp only; omega)⟩
theorem wdInt {i : Int} (h1 : -1000 ≤ i) (h2 : i ≤ 1000) : Wd 1000 i := Wd.mono (n := 10) (by show i.natAbs < 2 ^ 10; omega) (by omega)
theorem strG_wd {n : Nat} {st : List Iv} (h : StrG n st) : ∀ p ∈ st, Wd 1000 p.1 ∧ Wd 1000 p.2 := fun p hp => by
  have := h.2 p hp
  exact ⟨wdInt (by omega) (by omega), wdInt (by omega) (by omega)⟩
theorem isT_cut {ss : List Sm} {st : List Iv} {n c : Int} {a b : Tr} {p : Iv} (e : st[n.toNat]? = some p) : isT ss st (.cut n c a b) = (cutOk st (.cut n c a b) && (isT ss (below st n.toNat p c) a && isT ss (above st n.toNat p c) b)) := by
  simp only [isT, cutOk, e, Bool.and_assoc]
theorem isT_no {ss : List Sm} {st : List Iv} {t : Tr} (h : cutOk st t = false) (hp : ∀ p ∈ st, p.1 ≤ p.2) : isT ss st t = endOk ss st t := by
  cases t with
  | sum n =>
    simp only [isT, endOk]
    cases e : ss[n.toNat]? with
    | none => rfl
    | some s => simp only [leastP_least hp]
  | cut n c a b =>
    simp only [isT, endOk, cutOk] at h ⊢
    cases e : st[n.toNat]? with
    | none => simp
    | some p =>
      rw [e] at h
      simp only [Bool.and_assoc] at h ⊢
      cases h0 : decide (0 ≤ n) <;> cases h1 : decide (p.1 ≤ c) <;> cases h2 : decide (c < p.2) <;> simp_all
theorem a2Snoc {α β : Type} {R : α → β → Prop} {a : List α} {x : α} {b : List β} (h : A2 R (a ++ [x]) b) : ∃ c y, b = c ++ [y] ∧ A2 R a c ∧ R x y := by
  induction a generalizing b with
  | nil =>
    cases h with
    | cons h t =>
      cases t
      exact ⟨[], _, rfl, .nil, h⟩
  | cons z r ih =>
    cases h with
    | cons h t =>
      obtain ⟨c, y, rfl, h1, h2⟩ := ih t
      exact ⟨_ :: c, y, rfl, .cons h h1, h2⟩
/-- what is still to be looked at: a stretch and a tree -/
def PairT (K : PySem.W.Frag) (L : Addr) (n : Nat) (H : Hp) (v : V) (p : List Iv × Tr) : Prop := ∃ (pa a : Addr) (tv : V), v = .ref pa ∧ SqT K H pa [.ref a, tv] ∧ a ≠ L ∧ StrIn K H a p.1 ∧ TrIn K H tv p.2 ∧ StrG n p.1
theorem PairT.same {L : Addr} {n : Nat} {H H' : Hp} {v : V} {p : List Iv × Tr} (e : Same H H') (h : PairT K L n H v p) : PairT K L n H' v p := by
  obtain ⟨pa, a, tv, e0, h1, h2, h3, h4, h5⟩ := h
  exact ⟨pa, a, tv, e0, tupS e h1, h2, h3.same e, trTS (tsOf e) h4, h5⟩
theorem PairT.mut {L : Addr} {n : Nat} {H : Hp} {v : V} {p : List Iv × Tr} {xs ys : List V} (e : H L = some (.lst xs)) (h : PairT K L n H v p) : PairT K L n (upd H L (.lst ys)) v p := by
  obtain ⟨pa, a, tv, e0, h1, h2, ⟨ws, h3, h6⟩, h4, h5⟩ := h
  have t : TS H (upd H L (.lst ys)) := tsLst e
  exact ⟨pa, a, tv, e0, tsTup t h1, h2, ⟨ws, seqNe h3 h2, priTS t h6⟩, trTS t h4, h5⟩
theorem pairsSame {L : Addr} {n : Nat} {H H' : Hp} {vs : List V} {ps : List (List Iv × Tr)} (e : Same H H') (h : A2 (PairT K L n H) vs ps) : A2 (PairT K L n H') vs ps := A2.map (B' := ps) (fun _ _ _ r => r.same e) (fun _ m => m) h
theorem pairsMut {L : Addr} {n : Nat} {H : Hp} {vs xs ys : List V} {ps : List (List Iv × Tr)} (e : H L = some (.lst xs)) (h : A2 (PairT K L n H) vs ps) : A2 (PairT K L n (upd H L (.lst ys))) vs ps := A2.map (B' := ps) (fun _ _ _ r => r.mut e) (fun _ m => m) h
abbrev s_is_tree : Stmt := topS 2
theorem sc_is_tree : FnScope ["stretch", "some", "tree", "ahead", "here", "part", "_", "box", "at", "below", "above", "lower", "upper"] ["stretch", "some", "tree"] (defScope s_is_tree) := ⟨rfl, rfl, rfl, by decide +kernel, rfl, by decide +kernel, by decide +kernel⟩

def spTreeG (K : PySem.W.Frag) : Sp := fun vs H Q _ => ∃ (a b : Addr) (tv : V) (st : List Iv) (us : List V) (ss : List Sm) (t : Tr), vs = [.ref a, .ref b, tv] ∧ StrIn K H a st ∧ SqL K H b us ∧ A2 (SumIn K H) us ss ∧ StrG st.length st ∧ st.length ≤ 1000 ∧ (∀ s ∈ ss, s.1.length = st.length ∧ ∀ n ∈ s.1, Wd 1000 n) ∧ TrIn K H tv t ∧ t.deep ≤ 1000 ∧ H a ≠ none ∧ ∀ H', Same H H' → Q (.bl (isT ss st t)) H'
theorem ok_is_tree {f : Addr} {fd : FuncData} {k : Nat} (F : Fun K "is_tree" "is_tree" s_is_tree f fd) (B : Bl mg) (c__is_cut : C8.Cal P w K mg base k "_is_cut" (spIC K) []) (c__is_end : C8.Cal P w K mg base k "_is_end" (spIE K) []) (c__cut : C8.Cal P w K mg base k "_cut" (spCut K) []) : FnOk P w K mg base CX0 (k + 1) f fd ["stretch", "some", "tree"] (spTreeG K) := by
  refine F.ok sc_is_tree (fun vs H Q E h => ?_) (fun cdv A outer s H vs Q E hr h => ?_)
  · obtain ⟨a, b, tv, st, us, ss, t, rfl, _⟩ := h
    rfl
  obtain ⟨a, b, tv, st, us, ss, t, rfl, hS, hB, hU, hG, hz, hs, hT, hd, hna, q⟩ := h
  refine ⟨_, (pss_cons (ps_set (i := 3) sc_is_tree.nd rfl (.inl rfl) (pe_lst (pa_cons (pe_tup (pa_cons (pv 0) (pa_cons (pv 2) pa_nil))) pa_nil)))
    (pss_cons (ps_while PassesOwn.never (pt_truth (pv 3) (by intro _; rfl))
      (pss_cons (ps_asg (pe_bm0 PySem.F.plainAttrs_list PySem.F.slot_list_pop PySem.F.type_list_pop mt_pop (pv 3)) (kT2 (K := K) rfl rfl (pg_name (i := 4) sc_is_tree.nd rfl (.inl rfl)) (pg_name (i := 5) sc_is_tree.nd rfl (.inl rfl))))
      (pss_one (ps_if (pt_val (C8.pe_c c__is_cut hr (Nat.le_refl _) (by rfl) (pa_cons (pv 4) (pa_cons (pv 5) pa_nil))))
        (pss_cons (ps_asg (pv 5) (kTn (K := K) rfl rfl (pgs_cons (pg_name (i := 6) sc_is_tree.nd rfl (.inl rfl)) (pgs_cons (pg_name (i := 7) sc_is_tree.nd rfl (.inl rfl)) (pgs_cons (pg_name (i := 8) sc_is_tree.nd rfl (.inl rfl)) (pgs_cons (pg_name (i := 9) sc_is_tree.nd rfl (.inl rfl)) (pgs_cons (pg_name (i := 10) sc_is_tree.nd rfl (.inl rfl)) pgs_nil)))))))
        (pss_cons (ps_asg (C8.pe_c c__cut hr (Nat.le_refl _) (by rfl) (pa_cons (pv 4) (pa_cons (pv 7) (pa_cons (pv 8) pa_nil)))) (kT2 (K := K) rfl rfl (pg_name (i := 11) sc_is_tree.nd rfl (.inl rfl)) (pg_name (i := 12) sc_is_tree.nd rfl (.inl rfl))))
        (pss_cons (ps_expr (pe_bm PySem.F.plainAttrs_list PySem.F.slot_list_append PySem.F.type_list_append mt_append (pv 3) (pa_cons (pe_tup (pa_cons (pv 11) (pa_cons (pv 9) pa_nil))) pa_nil)))
        (pss_one (ps_expr (pe_bm PySem.F.plainAttrs_list PySem.F.slot_list_append PySem.F.type_list_append mt_append (pv 3) (pa_cons (pe_tup (pa_cons (pv 12) (pa_cons (pv 10) pa_nil))) pa_nil)))))))
        (pss_one (ps_if (pt_not (pt_val (C8.pe_c c__is_end hr (Nat.le_refl _) (by rfl) (pa_cons (pv 4) (pa_cons (pv 1) (pa_cons (pv 5) pa_nil))))))
          (pss_one (ps_ret pe_bl))
          pss_nil))))))
    (pss_one (ps_ret pe_bl)))), ?_⟩
  have szl : (100000 : Nat) < sizeLine := by decide
  refine ⟨_, rfl, _, rfl, by show 2 ≤ sizeLine; decide, fun T nT => ⟨by show 1 ≤ sizeLine; decide, fun L nL => ?_⟩⟩
  have s0 := Same.trans (sameNew (o := .tup [.ref a, tv]) nT) (sameNew (o := .lst [.ref T]) nL)
  have nL0 : H L = none := Same.free (sameNew nT) nL
  refine ⟨fun m σ H' => ∃ (xs : List V) (ps : List (List Iv × Tr)) (y4 y5 y6 y7 y8 y9 y10 y11 y12 : Option V), σ = [some (.ref a), some (.ref b), some tv, some (.ref L), y4, y5, y6, y7, y8, y9, y10, y11, y12] ∧ Same H H' ∧ H' L = some (.lst xs) ∧ A2 (PairT K L st.length H') xs ps ∧
    (∀ (i : Nat) p, ps[i]? = some p → p.2.deep + i ≤ t.deep) ∧ isT ss st t = ps.all (fun p => isT ss p.1 p.2) ∧ (ps.map fun p => p.2.nodes).sum = m,
    ⟨_, [.ref T], [(st, t)], none, none, none, none, none, none, none, none, none, rfl, s0, upd_same, ?_, fun i p e => ?_, by simp, rfl⟩, ?_⟩
  · obtain ⟨ws, h1, h2⟩ := id hS
    have aL : a ≠ L := fun e => hna (e ▸ nL0)
    exact .cons ⟨T, a, tv, rfl, tupS (sameNew nL) (.of upd_same), aL, hS.same s0, trTS (tsOf s0) hT, hG⟩ .nil
  · cases i with
    | zero =>
      simp at e
      subst e
      simp
    | succ i => simp at e
  rintro m σ H1 ⟨xs, ps, y4, y5, y6, y7, y8, y9, y10, y11, y12, rfl, sm, hL, hP, hD, hI, hm⟩
  refine ⟨_, rfl, !xs.isEmpty, .inl ⟨xs, .of hL, rfl⟩, ?_⟩
  rcases List.eq_nil_or_concat xs with rfl | ⟨ys, y, rfl⟩
  · cases hP
    refine iteF ?_
    rw [List.all_nil] at hI
    rw [hI] at q
    exact q _ sm
  obtain ⟨qs, p, rfl, hP1, pa, a', tv', rfl, h1, h2, h3, h4, h5⟩ := a2Snoc (by rw [List.concat_eq_append] at hP; exact hP)
  rw [List.concat_eq_append] at hL hP
  have ne : (!(ys.concat (V.ref pa)).isEmpty) = true := by simp
  rw [ne]
  refine iteT ⟨_, fun σ' H' z => z, ?_⟩
  have hDp := hD qs.length p (by simp)
  have lq : ys.length = qs.length := hP1.len
  have dp := Tr.deep_pos p.2
  rw [List.all_append, List.all_cons, List.all_nil, Bool.and_true] at hI
  rw [List.map_append, List.sum_append] at hm
  simp only [List.map_cons, List.map_nil, List.sum_cons, List.sum_nil, Nat.add_zero] at hm
  -- here, part = ahead.pop()
  refine ⟨_, rfl, .inl ⟨rfl, _, .of hL⟩, L, _, .ref pa, rfl, rfl, hL, by simp, ?_⟩
  rw [List.dropLast_concat]
  have t0 : TS H1 (upd H1 L (.lst ys)) := tsLst hL
  have sm0 : Same H (upd H1 L (.lst ys)) := sameMut sm nL0
  have hL0 : upd H1 L (.lst ys) L = some (.lst ys) := upd_same
  have hP0 := pairsMut (ys := ys) hL hP1
  have h10 := tsTup t0 h1
  have h30 : StrIn K (upd H1 L (.lst ys)) a' p.1 := by
    obtain ⟨ws, g1, g2⟩ := h3
    exact ⟨ws, seqNe g1 h2, priTS t0 g2⟩
  have h40 := trTS t0 h4
  generalize upd H1 L (.lst ys) = H2 at *
  clear t0 h1 h3 h4 hL hP sm hP1
  refine ⟨_, _, rfl, h10, rfl, _, _, rfl, _, _, rfl, rfl, ?_⟩
  have hlp : p.1.length ≤ 1000 := by have := h5.1; omega
  have hlo : ∀ r ∈ p.1, r.1 ≤ r.2 := fun r hr => (h5.2 r hr).2.1
  have hsp : ∀ s ∈ ss, s.1.length = p.1.length ∧ ∀ n ∈ s.1, Wd 1000 n := fun s hs' => ⟨(hs s hs').1.trans h5.1.symm, (hs s hs').2⟩
  refine ⟨_, rfl, _, rfl, a', tv', p.1, p.2, rfl, h30, h40, hlp, fun H3 s3 => ⟨_, rfl, ?_⟩⟩
  have sm3 := Same.trans sm0 s3
  have hL3 := s3 _ _ hL0
  have hP3 := pairsSame s3 hP0
  have h43 := trTS (tsOf s3) h40
  refine ifB (fun c => ?_) (fun c => ?_)
  · -- a cut
    obtain ⟨st1, t1⟩ := p
    dsimp only at *
    cases h43 with
    | sum h => cases c
    | @cut pb n cc v w ta tb h ha hb =>
    cases e : st1[n.toNat]? with
    | none => simp [cutOk, e] at c
    | some r =>
    have c' := c
    simp only [cutOk, e, Bool.and_eq_true, decide_eq_true_eq] at c'
    obtain ⟨g0, g1, g2⟩ := c'
    refine ⟨_, rfl, _, _, rfl, h, rfl, _, _, rfl, _, _, rfl, _, _, rfl, _, _, rfl, _, _, rfl, rfl, ?_⟩
    obtain ⟨ws, k1, k2⟩ := h30.same s3
    refine ⟨_, rfl, _, rfl, _, rfl, a', ws, st1, n, cc, r, rfl, k1, k2, g0, e, hlp, fun R l u ws1 ws2 H4 nR nl nu s4 eR el hA eu hB' => ?_⟩
    refine ⟨_, _, rfl, .of eR, rfl, _, _, rfl, _, _, rfl, rfl, ?_⟩
    have lL : l ≠ L := fun z => by rw [z, hL3] at nl; cases nl
    have uL : u ≠ L := fun z => by rw [z, hL3] at nu; cases nu
    have hL4 := s4 _ _ hL3
    have gb := strG_below h5 e g1 g2
    have lys : ys.length ≤ 1000 := by omega
    -- ahead.append((lower, below))
    refine ⟨_, rfl, .inl ⟨rfl, _, .of hL4⟩, _, rfl, _, rfl, by show 2 ≤ sizeLine; decide, fun T1 nT1 => ?_⟩
    have sT1 := sameNew (o := .tup [.ref l, v]) nT1
    refine ⟨L, ys, _, rfl, rfl, sT1 _ _ hL4, by omega, ?_⟩
    have p1 : PairT K L st.length (upd H4 T1 (.tup [.ref l, v])) (.ref T1) (below st1 n.toNat r cc, ta) := ⟨T1, l, v, rfl, .of upd_same, lL, ⟨ws1, .of (sT1 _ _ el), priTS (tsOf sT1) hA⟩, trTS (tsOf (Same.trans s4 sT1)) ha, gb.1⟩
    have hL5 := sT1 _ _ hL4
    have q5 := (pairsSame (Same.trans s4 sT1) hP3).app (.cons p1 .nil)
    have q6 := pairsMut (ys := ys ++ [.ref T1]) hL5 q5
    have eu6 : upd (upd H4 T1 (.tup [.ref l, v])) L (.lst (ys ++ [.ref T1])) u = some (.lst ws2) := by rw [upd_ne uL]; exact sT1 _ _ eu
    have t6 : TS H4 (upd (upd H4 T1 (.tup [.ref l, v])) L (.lst (ys ++ [.ref T1]))) := TS.trans (tsOf sT1) (tsLst hL5)
    have sm6 : Same H (upd (upd H4 T1 (.tup [.ref l, v])) L (.lst (ys ++ [.ref T1]))) := sameMut (Same.trans sm3 (Same.trans s4 sT1)) nL0
    have hL6 : upd (upd H4 T1 (.tup [.ref l, v])) L (.lst (ys ++ [.ref T1])) L = some (.lst (ys ++ [.ref T1])) := upd_same
    have tb6 := trTS (TS.trans (tsOf s4) t6) hb
    have hB6 := priTS t6 hB'
    generalize upd (upd H4 T1 (.tup [.ref l, v])) L (.lst (ys ++ [.ref T1])) = H6 at *
    -- ahead.append((upper, above))
    refine ⟨_, rfl, .inl ⟨rfl, _, .of hL6⟩, _, rfl, _, rfl, by show 2 ≤ sizeLine; decide, fun T2 nT2 => ?_⟩
    have sT2 := sameNew (o := .tup [.ref u, w]) nT2
    refine ⟨L, _, _, rfl, rfl, sT2 _ _ hL6, by simp; omega, ?_⟩
    have p2 : PairT K L st.length (upd H6 T2 (.tup [.ref u, w])) (.ref T2) (above st1 n.toNat r cc, tb) := ⟨T2, u, w, rfl, .of upd_same, uL, ⟨ws2, .of (sT2 _ _ eu6), priTS (tsOf sT2) hB6⟩, trTS (tsOf sT2) tb6, gb.2⟩
    have q7 := pairsMut (ys := ys ++ [.ref T1] ++ [.ref T2]) (sT2 _ _ hL6) ((pairsSame sT2 q6).app (.cons p2 .nil))
    simp only [Tr.deep, Tr.nodes] at hDp hm
    refine ⟨_, ?_, _, _, _, _, _, _, _, _, _, _, _, rfl, sameMut (Same.trans sm6 sT2) nL0, upd_same, q7, fun i z ez => ?_, ?_, rfl⟩
    · simp only [List.map_append, List.sum_append, List.map_cons, List.map_nil, List.sum_cons, List.sum_nil]
      omega
    · by_cases i1 : i < qs.length
      · rw [List.getElem?_append_left (by simp; omega), List.getElem?_append_left i1] at ez
        exact hD i z (by rw [List.getElem?_append_left i1]; exact ez)
      · by_cases i2 : i = qs.length
        · subst i2
          simp at ez
          subst ez
          dsimp only
          omega
        · by_cases i3 : i = qs.length + 1
          · subst i3
            rw [List.getElem?_append_right (by simp)] at ez
            simp at ez
            subst ez
            dsimp only
            omega
          · rw [List.getElem?_eq_none (by simp; omega)] at ez
            cases ez
    · rw [hI, isT_cut e, c, Bool.true_and]
      simp [List.all_append, Bool.and_assoc]
  · -- no cut
    refine ⟨_, rfl, _, rfl, _, rfl, a', b, tv', us, ss, p.1, p.2, rfl, h30.same s3, Same.seq sm3 hB, A2.map (B' := ss) (fun _ _ _ r => SumIn.mono sm3 r) (fun _ m => m) hU, h43, hlp, hsp, strG_wd h5, fun H4 s4 => ⟨_, rfl, ?_⟩⟩
    rw [isT_no c hlo] at hI
    have sm4 := Same.trans sm3 s4
    cases ec : endOk ss p.1 p.2 with
    | false =>
      rw [ec, Bool.and_false] at hI
      rw [hI] at q
      exact iteT (q _ sm4)
    | true =>
      rw [ec, Bool.and_true] at hI
      refine iteF ⟨_, ?_, _, _, _, _, _, _, _, _, _, _, _, rfl, sm4, s4 _ _ hL3, pairsSame s4 hP3, fun i z ez => ?_, hI, rfl⟩
      · have : 1 ≤ p.2.nodes := by cases p.2 <;> simp [Tr.nodes]
        omega
      · have il := (List.getElem?_eq_some_iff.mp ez).1
        exact hD i z (by rw [List.getElem?_append_left il]; exact ez)

end

end LW

namespace LW
open PySem PySem.Spec PyProof.Rows L2
local macro_rules | `(tactic| walk_at "go1") => `(tactic| first
  | refine ⟨_, rfl, ?_⟩
  | refine ⟨_, _, rfl, rfl, ?_⟩
  | refine ⟨show (0 : Int) < _ from by omega, ?_⟩
  | refine ⟨show CMul _ _ from by first | exact .inl ⟨by omega, by omega⟩ | exact .inr ⟨by omega, by omega⟩, ?_⟩
  | refine ⟨show CDiv _ _ from ⟨by omega, by omega⟩, ?_⟩)
local macro_rules | `(tactic| walk_at "go") => `(tactic| repeat walk_at "go1")

section
variable {P : Program} {w : World} {K : PySem.W.Frag} {mg : Str → Option Value} {base : Heap}

/-- a number and a sum, as a tuple in the heap -/
def NsIn (K : PySem.W.Frag) (H : Hp) (v : V) (p : Int × Sm) : Prop := ∃ t w, v = .ref t ∧ SqT K H t [.int p.1, w] ∧ SumIn K H w p.2
theorem nsTS {H H' : Hp} {vs : List V} {ps : List (Int × Sm)} (e : TS H H') (h : A2 (NsIn K H) vs ps) : A2 (NsIn K H') vs ps :=
  A2.map (B' := ps) (fun _ _ _ ⟨t, w, e0, h1, h2⟩ => ⟨t, w, e0, tsTup e h1, tsSum e h2⟩) (fun _ m => m) h
theorem low_high : ∀ {a : List Int} {st : List Iv}, (∀ (j : Nat) n p, a[j]? = some n → st[j]? = some p → n = 0 ∨ ¬ p.1 < p.2) → (∀ p ∈ st, p.1 ≤ p.2) → lowP a st = highP a st
  | [], _, _, _ => by simp [lowP, highP]
  | _ :: _, [], _, _ => by simp [lowP, highP]
  | n :: ns, p :: ps, h, hp => by
    have ih := low_high (a := ns) (st := ps) (fun j n p e1 e2 => h (j + 1) n p (by simpa using e1) (by simpa using e2)) fun q hq => hp q (List.mem_cons_of_mem _ hq)
    have h0 := h 0 n p rfl rfl
    have h1 := hp p (List.mem_cons_self ..)
    simp only [lowP, highP, ih]
    rcases h0 with e | e
    · subst e
      simp
    · have : p.1 = p.2 := by omega
      rw [this]
/-- a place where a stretch may be cut -/
def CutAt (st : List Iv) (H : Hp) (v : V) : Prop := ∃ (t : Addr) (j : Nat) (c : Int) (p : Iv), v = .ref t ∧ H t = some (.tup [.int (j : Int), .int c]) ∧ st[j]? = some p ∧ p.1 ≤ c ∧ c < p.2
theorem CutAt.same {st : List Iv} {H H' : Hp} {v : V} (e : Same H H') (h : CutAt st H v) : CutAt st H' v := by
  obtain ⟨t, j, c, p, e0, h1, h2⟩ := h
  exact ⟨t, j, c, p, e0, e _ _ h1, h2⟩
abbrev s__where_to_cut : Stmt := topS 4
theorem sc__where_to_cut : FnScope ["stretch", "rest", "widest", "found", "_", "one", "least", "box", "number", "low", "high", "wide", "left"] ["stretch", "rest"] (defScope s__where_to_cut) := ⟨rfl, rfl, rfl, by decide +kernel, rfl, by decide +kernel, by decide +kernel⟩

def spWhere (K : PySem.W.Frag) : Sp := fun vs H Q _ => ∃ (a r : Addr) (ws rs : List V) (st : List Iv) (ps : List (Int × Sm)), vs = [.ref a, .ref r] ∧ SqL K H a ws ∧ A2 (PrI K H) ws st ∧ StrG st.length st ∧ st.length ≤ 1000 ∧ SqL K H r rs ∧ A2 (NsIn K H) rs ps ∧ 0 < ps.length ∧ (∀ p ∈ ps, p.2.1.length = st.length ∧ ∀ n ∈ p.2.1, Wd 1000 n) ∧ (∀ p ∈ ps, leastP p.2 st ≤ 0 ∧ 0 < mostP p.2 st) ∧
  ∀ (H' : Hp) (v : V), Same H H' → CutAt st H' v → Q v H'
theorem ok__where_to_cut {f : Addr} {fd : FuncData} {k : Nat} (F : Fun K "_where_to_cut" "_where_to_cut" s__where_to_cut f fd) (B : Bl mg) (nabs : mg "abs" = none) (c__least_and_most : C8.Cal P w K mg base k "_least_and_most" (spLM K) []) : FnOk P w K mg base CX0 (k + 1) f fd ["stretch", "rest"] (spWhere K) := by
  refine F.ok sc__where_to_cut (fun vs H Q E h => ?_) (fun cdv A outer s H vs Q E hr h => ?_)
  · obtain ⟨a, r, ws, rs, st, ps, rfl, _⟩ := h
    rfl
  obtain ⟨a, r, ws, rs, st, ps, rfl, hS, hW, hG, hz, hR, hP, h0, hs, hm, q⟩ := h
  refine ⟨_, (pss_cons (ps_asg (pe_tup (pa_cons pe_int (pa_cons pe_non pa_nil))) (kT2 (K := K) rfl rfl (pg_name (i := 2) sc__where_to_cut.nd rfl (.inl rfl)) (pg_name (i := 3) sc__where_to_cut.nd rfl (.inl rfl))))
    (pss_cons (ps_for PassesOwn.never rfl (kList_ (K := K) rfl (pv 1)) (kT2 (K := K) rfl rfl (pg_name (i := 4) sc__where_to_cut.nd rfl (.inl rfl)) (pg_name (i := 5) sc__where_to_cut.nd rfl (.inl rfl)))
      (pss_cons (ps_asg (C8.pe_c c__least_and_most hr (Nat.le_refl _) (by rfl) (pa_cons (pv 5) (pa_cons (pv 0) pa_nil))) (kT2 (K := K) rfl rfl (pg_name (i := 6) sc__where_to_cut.nd rfl (.inl rfl)) (pg_name (i := 4) sc__where_to_cut.nd rfl (.inl rfl))))
      (pss_one (ps_for PassesOwn.never rfl (kE (K := K) rfl true (by rfl) B.enumerate (pa_cons (pe_ix (kIxT (K := K) rfl) (pv 5) pe_int (fun _ _ => rfl)) pa_nil)) (kT2 (K := K) rfl rfl (pg_name (i := 7) sc__where_to_cut.nd rfl (.inl rfl)) (pg_name (i := 8) sc__where_to_cut.nd rfl (.inl rfl)))
        (pss_cons (ps_if (pt_cmpR op_eq (pv 8) pe_int (nomark _))
          (pss_one ps_continue)
          pss_nil)
        (pss_cons (ps_asg (pe_ix (kIxL (K := K) rfl) (pv 0) (pv 7) (fun _ _ => rfl)) (kT2 (K := K) rfl rfl (pg_name (i := 9) sc__where_to_cut.nd rfl (.inl rfl)) (pg_name (i := 10) sc__where_to_cut.nd rfl (.inl rfl))))
        (pss_cons (ps_set (i := 11) sc__where_to_cut.nd rfl (.inl rfl) (pe_op op_add (pe_op op_sub (pv 10) (pv 9)) pe_int))
        (pss_cons (ps_set (i := 12) sc__where_to_cut.nd rfl (.inl rfl) (pe_op op_add (pe_op op_fdivW (pe_un un_neg (pv 6)) (pe_callB call_abs (by rfl) nabs (by decide +kernel) (pa_cons (pv 8) pa_nil))) pe_int))
        (pss_cons (ps_if (pt_cmpR op_le (pe_op op_mul pe_int (pv 12)) (pv 11) (nomark _))
          (pss_one (ps_ret (pe_tup (pa_cons (pv 7) (pa_cons (pe_ifExp (pt_cmpR op_gt (pv 8) pe_int (nomark _)) (pe_op op_sub (pe_op op_add (pv 9) (pv 12)) pe_int) (pe_op op_sub (pv 10) (pv 12))) pa_nil)))))
          pss_nil)
        (pss_one (ps_if (pt_cmpR op_gt (pv 11) (pv 2) (nomark _))
          (pss_one (ps_par (i := 2) (j := 3) rfl sc__where_to_cut.nd rfl rfl (by decide) rfl rfl (pa_cons (pv 11) (pa_cons (pe_tup (pa_cons (pv 7) (pa_cons (pe_op op_fdiv (pe_op op_add (pv 9) (pv 10)) pe_int) pa_nil))) pa_nil)) (by rfl)))
          pss_nil)))))))))))
    (pss_one (ps_ret (pv 3))))), ?_⟩
  have lw := hW.len
  have lr := hP.len
  have hlo : ∀ p ∈ st, p.1 ≤ p.2 := fun p hp => (hG.2 p hp).2.1
  refine ⟨by show 2 ≤ sizeLine; decide, fun T0 nT0 => ?_⟩
  refine ⟨_, _, rfl, .of upd_same, rfl, _, _, rfl, _, _, rfl, rfl, ?_⟩
  refine ⟨_, rfl, r, rfl, ⟨_, Same.seq (sameNew nT0) hR⟩, ?_⟩
  refine for_it (walk_list (xs := rs)) (fun i σ H' => Same H H' ∧ ∃ (wd : Int) (fv : V) (y4 y5 y6 y7 y8 y9 y10 y11 y12 : Option V), σ = [some (.ref a), some (.ref r), some (.int wd), some fv, y4, y5, y6, y7, y8, y9, y10, y11, y12] ∧ 1 ≤ wd ∧ (CutAt st H' fv ∨ (i = 0 ∧ wd = 1)))
    ⟨sameNew nT0, 1, .non, none, none, none, none, none, none, none, none, none, rfl, by omega, .inr ⟨rfl, rfl⟩⟩ (fun i σ H' _ p => Same.seq p.1 hR) (fun i x σ H1 H2 hi p y => ?_) (fun σ H' p => ?_)
  · obtain ⟨sm, wd, fv, y4, y5, y6, y7, y8, y9, y10, y11, y12, rfl, w1, hf⟩ := p
    obtain ⟨rfl, ex⟩ := y
    obtain ⟨⟨k0, s0⟩, es, tt, wv, rfl, ht, hw0⟩ := A2.at hP ex
    have ms := List.mem_of_getElem? es
    obtain ⟨hs0, hs1⟩ := hs _ ms
    obtain ⟨hm0, hm1⟩ := hm _ ms
    dsimp only at hs0 hs1 hm0 hm1 hw0 ht
    refine ⟨_, _, rfl, tupS sm ht, rfl, _, _, rfl, _, _, rfl, rfl, ?_⟩
    refine ⟨_, rfl, _, rfl, wv, a, s0, st, rfl, SumIn.mono sm hw0, ⟨ws, Same.seq sm hS, priTS (tsOf sm) hW⟩, hs0, hz, hs1, strG_wd hG, fun R H3 nR s3 eR => ?_⟩
    refine ⟨_, _, rfl, .of eR, rfl, _, _, rfl, _, _, rfl, rfl, ?_⟩
    have sm3 := Same.trans sm s3
    obtain ⟨ob, ot, rfl, o1, o2⟩ := SumIn.mono sm3 hw0
    have hf3 : CutAt st H3 fv ∨ (i = 0 ∧ wd = 1) := hf.imp (fun h => h.same s3) fun h => h
    refine ⟨_, rfl, _, _, _, _, rfl, rfl, o1, atI_nat (j := 0) rfl, _, _, rfl, o2, ?_⟩
    refine for_it (walkE (xs := s0.1.map V.int)) (fun j σ H' => Same H3 H' ∧ ∃ (wd : Int) (fv : V) (y7 y8 y9 y10 y11 y12 : Option V), σ = [some (.ref a), some (.ref r), some (.int wd), some fv, some (.int (mostP s0 st)), some (.ref ob), some (.int (leastP s0 st)), y7, y8, y9, y10, y11, y12] ∧ 1 ≤ wd ∧
        (CutAt st H' fv ∨ (wd = 1 ∧ ∀ (m : Nat) n p, m < j → s0.1[m]? = some n → st[m]? = some p → n = 0 ∨ ¬ p.1 < p.2)))
      ⟨Same.refl _, wd, fv, y7, y8, y9, y10, y11, y12, rfl, w1, hf3.imp (fun h => h) fun h => ⟨h.2, fun m n p hm => absurd hm (Nat.not_lt_zero _)⟩⟩ (fun j σ H' _ p => tupS p.1 o2) (fun j x σ H4 H5 hj p y => ?_) (fun σ H' p => ?_)
    · obtain ⟨sm4, wd, fv, y7, y8, y9, y10, y11, y12, rfl, w2, hf4⟩ := p
      obtain ⟨T, x1, x2, rfl, nT, rfl, e1, e2⟩ := y
      cases e1
      have hj1 : j < s0.1.length := by simpa using hj
      have f2 := mapAt e2 hj1
      subst f2
      have hj2 : j < st.length := by omega
      have ej : s0.1[j]? = some s0.1[j] := List.getElem?_eq_getElem hj1
      have ep : st[j]? = some st[j] := List.getElem?_eq_getElem hj2
      have sT := sameNew (o := .tup [.int (j : Nat), .int s0.1[j]]) nT
      have sm5 := Same.trans sm4 sT
      have hf5 := hf4.imp (fun h => h.same sT) fun h => h
      refine ⟨_, _, rfl, .of upd_same, rfl, _, _, rfl, _, _, rfl, rfl, ?_⟩
      refine ⟨_, rfl, rfl, _, rfl, ?_⟩
      have more : (wd' : Int) → (fv' : V) → (H' : Hp) → 1 ≤ wd' → (CutAt st H' fv' ∨ (fv' = fv ∧ wd' = wd ∧ H' = upd H4 T (.tup [.int (j : Nat), .int s0.1[j]]) ∧ (s0.1[j] = 0 ∨ ¬ st[j].1 < st[j].2))) →
          (CutAt st H' fv' ∨ (wd' = 1 ∧ ∀ (m : Nat) n p, m < j + 1 → s0.1[m]? = some n → st[m]? = some p → n = 0 ∨ ¬ p.1 < p.2)) := fun wd' fv' H' h1 h => by
        rcases h with h | ⟨rfl, rfl, rfl, h⟩
        · exact .inl h
        · rcases hf5 with g | ⟨g1, g2⟩
          · exact .inl g
          · refine .inr ⟨g1, fun m n p hm en epp => ?_⟩
            by_cases em : m = j
            · subst em
              rw [ej] at en
              rw [ep] at epp
              cases en
              cases epp
              exact h
            · exact g2 m n p (by omega) en epp
      refine ite2 (fun e => ?_) (fun e => ?_)
      · have e0 : s0.1[j] = 0 := by
          have e' := of_decide_eq_true e
          injection e'
        exact ⟨sm5, wd, fv, _, _, _, _, _, _, rfl, w2, more _ _ _ w2 (.inr ⟨rfl, rfl, rfl, .inl e0⟩)⟩
      have n0 : s0.1[j] ≠ 0 := fun z => e (decide_eq_true (by rw [z]))
      obtain ⟨w0, ew, ⟨tp, rfl, hp⟩⟩ := A2.atR hW ep
      have s05 := Same.trans sm3 sm5
      refine ⟨_, rfl, _, rfl, _, _, _, _, rfl, rfl, Same.seq s05 hS, atI_nat ew, ?_⟩
      refine ⟨_, _, rfl, tupS s05 hp, rfl, _, _, rfl, _, _, rfl, rfl, ?_⟩
      have hl1 := hlo _ (List.getElem_mem hj2)
      refine ⟨_, rfl, _, rfl, _, _, rfl, rfl, _, _, rfl, rfl, ?_⟩
      have wn := hs1 _ (List.getElem_mem hj1)
      have apos : 0 < (if s0.1[j] < 0 then -s0.1[j] else s0.1[j]) := by split <;> omega
      have awd : (if s0.1[j] < 0 then -s0.1[j] else s0.1[j]).natAbs < 2 ^ 1000 := by
        have : (if s0.1[j] < 0 then -s0.1[j] else s0.1[j]).natAbs = s0.1[j].natAbs := by split <;> omega
        rw [this]
        exact wn
      refine ⟨_, rfl, _, rfl, _, rfl, _, rfl, _, _, rfl, rfl, wide_div apos awd (by decide) (by decide), _, _, rfl, rfl, ?_⟩
      have lft : 1 ≤ -leastP s0 st / (if s0.1[j] < 0 then -s0.1[j] else s0.1[j]) + 1 := by
        have := Int.ediv_nonneg (a := -leastP s0 st) (b := if s0.1[j] < 0 then -s0.1[j] else s0.1[j]) (by omega) (by omega)
        omega
      refine ⟨_, rfl, _, _, rfl, rfl, .inl ⟨by decide, by decide⟩, _, rfl, _, _, rfl, rfl, _, rfl, ?_⟩
      refine yesDec (fun c => ?_) (fun c => ?_)
      · refine ⟨_, rfl, _, rfl, _, _, rfl, rfl, _, rfl, ?_⟩
        refine yesDec (fun c1 => ?_) (fun c1 => ?_)
        · refine ⟨_, rfl, _, rfl, _, _, rfl, rfl, _, _, rfl, rfl, by show 2 ≤ sizeLine; decide, fun R2 nR2 => ?_⟩
          exact q _ _ (Same.trans s05 (sameNew nR2)) ⟨R2, j, _, st[j], rfl, upd_same, ep, by omega, by omega⟩
        · refine ⟨_, rfl, _, rfl, _, _, rfl, rfl, by show 2 ≤ sizeLine; decide, fun R2 nR2 => ?_⟩
          exact q _ _ (Same.trans s05 (sameNew nR2)) ⟨R2, j, _, st[j], rfl, upd_same, ep, by omega, by omega⟩
      · refine ⟨_, rfl, _, rfl, _, _, rfl, rfl, _, rfl, ?_⟩
        refine yesDec (fun c1 => ?_) (fun c1 => ?_)
        · refine ⟨_, rfl, _, rfl, _, rfl, _, rfl, _, _, rfl, rfl, _, _, rfl, rfl, ⟨by decide, by decide⟩, by show 2 ≤ sizeLine; decide, fun R2 nR2 => ?_⟩
          have sR2 := sameNew (o := .tup [.int (j : Nat), .int ((st[j].1 + st[j].2) / 2)]) nR2
          exact ⟨_, _, rfl, Same.trans sm5 sR2, _, .ref R2, _, _, _, _, _, _, rfl, by omega, .inl ⟨R2, j, _, st[j], rfl, upd_same, ep, by omega, by omega⟩⟩
        · rcases hf5 with g | ⟨g1, g2⟩
          · exact ⟨sm5, wd, fv, _, _, _, _, _, _, rfl, w2, .inl g⟩
          · exact ⟨sm5, wd, fv, _, _, _, _, _, _, rfl, w2, more _ _ _ w2 (.inr ⟨rfl, rfl, rfl, .inr (by omega)⟩)⟩
    · obtain ⟨sm4, wd, fv, y7, y8, y9, y10, y11, y12, rfl, w2, hf4⟩ := p
      refine ⟨Same.trans sm3 sm4, wd, fv, _, _, _, y7, y8, y9, y10, y11, y12, rfl, w2, .inl ?_⟩
      rcases hf4 with h | ⟨_, h⟩
      · exact h
      · exfalso
        have e := low_high (a := s0.1) (st := st) (fun m n p e1 e2 => h m n p (by rw [List.length_map]; exact (List.getElem?_eq_some_iff.mp e1).1) e1 e2) hlo
        unfold leastP at hm0
        unfold mostP at hm1
        omega
  · obtain ⟨sm, wd, fv, y4, y5, y6, y7, y8, y9, y10, y11, y12, rfl, w1, hf⟩ := p
    refine ⟨_, rfl, ?_⟩
    rcases hf with h | ⟨h, _⟩
    · exact q _ _ sm h
    · exact absurd h (by omega)

end

end LW

namespace LW
open PySem PySem.Spec PyProof.Rows L2
local macro_rules | `(tactic| walk_at "go1") => `(tactic| first
  | refine ⟨_, rfl, ?_⟩
  | refine ⟨_, _, rfl, rfl, ?_⟩
  | refine ⟨show (0 : Int) < _ from by omega, ?_⟩
  | refine ⟨show CMul _ _ from by first | exact .inl ⟨by omega, by omega⟩ | exact .inr ⟨by omega, by omega⟩, ?_⟩
  | refine ⟨show CDiv _ _ from ⟨by omega, by omega⟩, ?_⟩)
local macro_rules | `(tactic| walk_at "go") => `(tactic| repeat walk_at "go1")

section
variable {P : Program} {w : World} {K : PySem.W.Frag} {mg : Str → Option Value} {base : Heap}

theorem size_below {st : List Iv} {j : Nat} {p : Iv} {c : Int} (e : st[j]? = some p) (h1 : p.1 ≤ c) (h2 : c < p.2) : size (below st j p c) < size st ∧ size (above st j p c) < size st :=
  ⟨size_cut (r := (p.1, c)) e (by dsimp only; omega), size_cut (r := (c + 1, p.2)) e (by dsimp only; omega)⟩
/-- what tried tells -/
def Found (K : PySem.W.Frag) (H0 H : Hp) (tv fv : V) (st : List Iv) (ss : List Sm) : Prop :=
  (fv = .non ∧ ∃ t, TrIn K H tv t ∧ tv ≠ .non ∧ isT ss st t = true) ∨ (tv = .non ∧ ∃ (fa : Addr) (fs : List Int), fv = .ref fa ∧ H0 fa = none ∧ H fa = some (.lst (fs.map V.int)) ∧ InS st fs ∧ holds ss fs = true)
/-- the sums that are left, of the sums ss: their numbers, and that they decide -/
structure Rest (ss : List Sm) (st : List Iv) (ps : List (Int × Sm)) : Prop where
  at_ : ∀ p ∈ ps, 0 ≤ p.1 ∧ ss[p.1.toNat]? = some p.2
  all : ∀ fs, InS st fs → (∀ p ∈ ps, val p.2 fs ≤ 0) → holds ss fs = true
  good : ∀ p ∈ ps, p.2.1.length = st.length ∧ ∀ n ∈ p.2.1, Wd 1000 n
abbrev s__tried : Stmt := topS 3
theorem sc__tried : FnScope ["stretch", "ahead", "rest", "number", "one", "least", "most", "box", "at", "lower", "upper", "below", "filling", "above", "low", "_"] ["stretch", "ahead"] (defScope s__tried) := ⟨rfl, rfl, rfl, by decide +kernel, rfl, by decide +kernel, by decide +kernel⟩

def spTr (K : PySem.W.Frag) (i : Nat) : Sp := fun vs H Q _ => ∃ (a r : Addr) (ws rs : List V) (st : List Iv) (ps : List (Int × Sm)) (ss : List Sm), vs = [.ref a, .ref r] ∧ SqL K H a ws ∧ A2 (PrI K H) ws st ∧ StrG st.length st ∧ st.length ≤ 1000 ∧ SqL K H r rs ∧ A2 (NsIn K H) rs ps ∧ ps.length ≤ 1000 ∧ Rest ss st ps ∧ size st + 1 ≤ i ∧
  ∀ (H' : Hp) (R : Addr) (tv fv : V), Same H H' → H' R = some (.tup [tv, fv]) → Found K H H' tv fv st ss → Q (.ref R) H'
theorem ok__tried {f : Addr} {fd : FuncData} {k i : Nat} (F : Fun K "_tried" "_tried" s__tried f fd) (B : Bl mg) (c__least_and_most : C8.Cal P w K mg base k "_least_and_most" (spLM K) []) (c__where_to_cut : C8.Cal P w K mg base k "_where_to_cut" (spWhere K) []) (c__cut : C8.Cal P w K mg base k "_cut" (spCut K) []) (c__tried : C8.Cal P w K mg base k "_tried" (spTr K i) []) : FnOk P w K mg base CX0 (k + 1) f fd ["stretch", "ahead"] (spTr K (i + 1)) := by
  refine F.ok sc__tried (fun vs H Q E h => ?_) (fun cdv A outer s H vs Q E hr h => ?_)
  · obtain ⟨a, r, ws, rs, st, ps, ss, rfl, _⟩ := h
    rfl
  obtain ⟨a, r, ws, rs, st, ps, ss, rfl, hS, hW, hG, hz, hR, hP, lp, hX, hi, q⟩ := h
  refine ⟨_, (pss_cons (ps_set (i := 2) sc__tried.nd rfl (.inl rfl) (pe_lst pa_nil))
    (pss_cons (ps_for PassesOwn.never rfl (kList_ (K := K) rfl (pv 1)) (kT2 (K := K) rfl rfl (pg_name (i := 3) sc__tried.nd rfl (.inl rfl)) (pg_name (i := 4) sc__tried.nd rfl (.inl rfl)))
      (pss_cons (ps_asg (C8.pe_c c__least_and_most hr (Nat.le_refl _) (by rfl) (pa_cons (pv 4) (pa_cons (pv 0) pa_nil))) (kT2 (K := K) rfl rfl (pg_name (i := 5) sc__tried.nd rfl (.inl rfl)) (pg_name (i := 6) sc__tried.nd rfl (.inl rfl))))
      (pss_cons (ps_if (pt_cmpR op_gt (pv 5) pe_int (nomark _))
        (pss_one (ps_ret (pe_tup (pa_cons (pe_tup (pa_cons pe_str (pa_cons (pv 3) pa_nil))) (pa_cons pe_non pa_nil)))))
        pss_nil)
      (pss_one (ps_if (pt_cmpR op_gt (pv 6) pe_int (nomark _))
        (pss_one (ps_expr (pe_bm PySem.F.plainAttrs_list PySem.F.slot_list_append PySem.F.type_list_append mt_append (pv 2) (pa_cons (pe_tup (pa_cons (pv 3) (pa_cons (pv 4) pa_nil))) pa_nil))))
        pss_nil)))))
    (pss_cons (ps_if (pt_cmpR op_eq (pe_callB (kLen (K := K) rfl) (by rfl) B.len PySem.boot_len (pa_cons (pv 2) pa_nil)) pe_int (nomark _))
      (pss_one (ps_ret (pe_tup (pa_cons pe_non (pa_cons (pe_lc (own := [("low", 14), ("_", 15)]) rfl sc__tried.nd (kList_ (K := K) rfl (pv 0)) (blkOk_by (own := [("low", 14), ("_", 15)]) (N := ["stretch", "ahead", "rest", "number", "one", "least", "most", "box", "at", "lower", "upper", "below", "filling", "above", "low", "_"]) (sc := defScope s__tried) (by decide +kernel)) (fun _ _ _ _ _ => (pgT2 (K := K) rfl (pgN (i := 14) sc__tried.nd rfl (.inl rfl) (.inr rfl)) (pgN (i := 15) sc__tried.nd rfl (.inl rfl) (.inr rfl)) rfl (by rfl) (by rfl) (by rfl) (by rfl))) (fun _ _ _ _ _ => pts_nil) (fun _ _ _ _ _ => (pv 14))) pa_nil)))))
      pss_nil)
    (pss_cons (ps_asg (C8.pe_c c__where_to_cut hr (Nat.le_refl _) (by rfl) (pa_cons (pv 0) (pa_cons (pv 2) pa_nil))) (kT2 (K := K) rfl rfl (pg_name (i := 7) sc__tried.nd rfl (.inl rfl)) (pg_name (i := 8) sc__tried.nd rfl (.inl rfl))))
    (pss_cons (ps_asg (C8.pe_c c__cut hr (Nat.le_refl _) (by rfl) (pa_cons (pv 0) (pa_cons (pv 7) (pa_cons (pv 8) pa_nil)))) (kT2 (K := K) rfl rfl (pg_name (i := 9) sc__tried.nd rfl (.inl rfl)) (pg_name (i := 10) sc__tried.nd rfl (.inl rfl))))
    (pss_cons (ps_asg (C8.pe_c c__tried hr (Nat.le_refl _) (by rfl) (pa_cons (pv 9) (pa_cons (pv 2) pa_nil))) (kT2 (K := K) rfl rfl (pg_name (i := 11) sc__tried.nd rfl (.inl rfl)) (pg_name (i := 12) sc__tried.nd rfl (.inl rfl))))
    (pss_cons (ps_if (pt_cmpR op_isN (pv 11) pe_non (nomark _))
      (pss_one (ps_ret (pe_tup (pa_cons pe_non (pa_cons (pv 12) pa_nil)))))
      pss_nil)
    (pss_cons (ps_asg (C8.pe_c c__tried hr (Nat.le_refl _) (by rfl) (pa_cons (pv 10) (pa_cons (pv 2) pa_nil))) (kT2 (K := K) rfl rfl (pg_name (i := 13) sc__tried.nd rfl (.inl rfl)) (pg_name (i := 12) sc__tried.nd rfl (.inl rfl))))
    (pss_cons (ps_if (pt_cmpR op_isN (pv 13) pe_non (nomark _))
      (pss_one (ps_ret (pe_tup (pa_cons pe_non (pa_cons (pv 12) pa_nil)))))
      pss_nil)
    (pss_one (ps_ret (pe_tup (pa_cons (pe_tup (pa_cons pe_str (pa_cons (pv 7) (pa_cons (pv 8) (pa_cons (pv 11) (pa_cons (pv 13) pa_nil)))))) (pa_cons pe_non pa_nil)))))))))))))), ?_⟩
  have szl : (100000 : Nat) < sizeLine := by decide
  have lw := hW.len
  have lr := hP.len
  have hlo : ∀ p ∈ st, p.1 ≤ p.2 := fun p hp => (hG.2 p hp).2.1
  refine ⟨by show 0 ≤ sizeLine; decide, fun L nL => ?_⟩
  refine ⟨_, rfl, r, rfl, ⟨_, Same.seq (sameNew nL) hR⟩, ?_⟩
  refine for_it (walk_list (xs := rs)) (fun j σ H' => Same H H' ∧ ∃ (xs : List V) (qs : List (Int × Sm)) (y3 y4 y5 y6 : Option V), σ = [some (.ref a), some (.ref r), some (.ref L), y3, y4, y5, y6, none, none, none, none, none, none, none, none, none] ∧ H' L = some (.lst xs) ∧ A2 (NsIn K H') xs qs ∧ qs.length ≤ j ∧
      (∀ p ∈ qs, p ∈ ps ∧ leastP p.2 st ≤ 0 ∧ 0 < mostP p.2 st) ∧ ∀ fs, InS st fs → (∀ p ∈ qs, val p.2 fs ≤ 0) → ∀ p ∈ ps.take j, val p.2 fs ≤ 0)
    ⟨sameNew nL, [], [], none, none, none, none, rfl, upd_same, .nil, Nat.le_refl _, fun p hp => by simp at hp, fun fs _ _ p hp => by simp at hp⟩ (fun j σ H' _ p => Same.seq p.1 hR) (fun j x σ H1 H2 hj p y => ?_) (fun σ H' p => ?_)
  · obtain ⟨sm, xs, qs, y3, y4, y5, y6, rfl, hL, hQ, lq, hq, hall⟩ := p
    obtain ⟨rfl, ex⟩ := y
    obtain ⟨⟨k0, s0⟩, es, tt, wv, rfl, ht, hw0⟩ := A2.at hP ex
    have ms := List.mem_of_getElem? es
    obtain ⟨hg1, hg2⟩ := hX.good _ ms
    obtain ⟨ha1, ha2⟩ := hX.at_ _ ms
    dsimp only at hg1 hg2 ha1 ha2 hw0 ht
    refine ⟨_, _, rfl, tupS sm ht, rfl, _, _, rfl, _, _, rfl, rfl, ?_⟩
    refine ⟨_, rfl, _, rfl, wv, a, s0, st, rfl, SumIn.mono sm hw0, ⟨ws, Same.seq sm hS, priTS (tsOf sm) hW⟩, hg1, hz, hg2, strG_wd hG, fun R H3 nR s3 eR => ?_⟩
    refine ⟨_, _, rfl, .of eR, rfl, _, _, rfl, _, _, rfl, rfl, ?_⟩
    have sm3 := Same.trans sm s3
    refine ⟨_, rfl, _, _, rfl, rfl, _, rfl, ?_⟩
    refine yesDec (fun c => ?_) (fun c => ?_)
    · refine ⟨_, rfl, by show 2 ≤ sizeLine; decide, fun T1 nT1 => ⟨by show 2 ≤ sizeLine; decide, fun T2 nT2 => ?_⟩⟩
      have sT1 := sameNew (o := .tup [.str "sum", .int k0]) nT1
      have sT2 := sameNew (o := .tup [.ref T1, .non]) nT2
      refine q _ T2 _ _ (Same.trans sm3 (Same.trans sT1 sT2)) upd_same (.inl ⟨rfl, .sum k0, .sum (.of (sT2 _ _ upd_same)), (by simp), ?_⟩)
      have c' : 0 < least s0 st := by rw [← leastP_least hlo]; exact c
      simp [isT, ha1, ha2, c']
    · refine ⟨_, rfl, _, _, rfl, rfl, _, rfl, ?_⟩
      have et : ps.take (j + 1) = ps.take j ++ [(k0, s0)] := by rw [List.take_add_one, es]; rfl
      refine yesDec (fun c2 => ?_) (fun c2 => ?_)
      · have hL3 := s3 _ _ hL
        refine ⟨_, rfl, .inl ⟨rfl, _, .of hL3⟩, _, rfl, _, rfl, by show 2 ≤ sizeLine; decide, fun T1 nT1 => ?_⟩
        have sT1 := sameNew (o := .tup [.int k0, wv]) nT1
        have lxs := hQ.len
        refine ⟨L, xs, _, rfl, rfl, sT1 _ _ hL3, by omega, ?_⟩
        have t6 : TS H3 (upd (upd H3 T1 (.tup [.int k0, wv])) L (.lst (xs ++ [.ref T1]))) := TS.trans (tsOf sT1) (tsLst (sT1 _ _ hL3))
        refine ⟨sameMut (Same.trans sm3 sT1) nL, _, qs ++ [(k0, s0)], _, _, _, _, rfl, upd_same, (nsTS (TS.trans (tsOf s3) t6) hQ).app (.cons ⟨T1, wv, rfl, tsTup (tsLst (sT1 _ _ hL3)) (.of upd_same), tsSum (TS.trans (tsOf sm3) t6) hw0⟩ .nil), by simp; omega, fun p hp => ?_, fun fs hi hv p hp => ?_⟩
        · rcases List.mem_append.mp hp with hp | hp
          · exact hq p hp
          · rw [List.mem_singleton.mp hp]
            exact ⟨ms, by dsimp only; omega, c2⟩
        · rw [et] at hp
          rcases List.mem_append.mp hp with hp | hp
          · exact hall fs hi (fun p hp => hv p (List.mem_append_left _ hp)) p hp
          · exact hv p (List.mem_append_right _ hp)
      · refine ⟨sm3, xs, qs, _, _, _, _, rfl, s3 _ _ hL, nsTS (tsOf s3) hQ, by omega, hq, fun fs hi hv p hp => ?_⟩
        rw [et] at hp
        rcases List.mem_append.mp hp with hp | hp
        · exact hall fs hi hv p hp
        · rw [List.mem_singleton.mp hp]
          have := most_le (s := s0) hi hg1
          dsimp only
          omega
  obtain ⟨sm, xs, qs, y3, y4, y5, y6, rfl, hL, hQ, lq, hq, hall⟩ := p
  have et : ps.take rs.length = ps := List.take_of_length_le (by omega)
  rw [et] at hall
  have lxs := hQ.len
  refine ⟨_, rfl, _, _, rfl, .inl (.of hL), rfl, _, rfl, ?_⟩
  refine ite2 (fun e => ?_) (fun e => ?_)
  · -- nothing is left: all hold
    have e' := of_decide_eq_true e
    have lx0 : xs.length = 0 := by
      injection e' with e'
      omega
    have q0 : qs = [] := List.eq_nil_of_length_eq_zero (by omega)
    refine ⟨_, rfl, a, rfl, ⟨_, Same.seq sm hS⟩, fun D nD => ?_⟩
    refine lc_it (walk_list (xs := ws)) (Made H' D (RI fun j => ((st.map (·.1))[j]?.getD 0))) (made0 nD) (fun j H2 _ p => Same.seq p.same (Same.seq sm hS)) (fun j x H2 H3 hj p y => ?_) (fun H2 p => ?_)
    · obtain ⟨rfl, ex⟩ := y
      obtain ⟨pr, ep, ⟨tp, rfl, hp⟩⟩ := A2.at hW ex
      refine ⟨_, _, rfl, tupS (Same.trans sm p.same) hp, rfl, _, _, rfl, _, _, rfl, rfl, rfl, ?_⟩
      refine lcYes ?_
      refine ⟨_, rfl, ?_⟩
      exact p.push nD (stRI _) (by omega) (Same.refl _) (by simp [RI, ep])
    obtain ⟨eD, s2⟩ := madeRI p
    have e2 : (List.range ws.length).map (fun j => ((st.map (·.1))[j]?.getD 0)) = st.map (·.1) := by
      apply List.ext_getElem?
      intro j
      by_cases hj : j < st.length
      · simp [lw, hj]
      · rw [List.getElem?_eq_none (by simp; omega), List.getElem?_eq_none (by simp; omega)]
    rw [e2] at eD
    refine ⟨by show 2 ≤ sizeLine; decide, fun T2 nT2 => ?_⟩
    have sT2 := sameNew (o := .tup [.non, .ref D]) nT2
    have il := ins_low hlo
    refine q _ T2 _ _ (Same.trans sm (Same.trans s2 sT2)) upd_same (.inr ⟨rfl, D, st.map (·.1), rfl, Same.free sm nD, sT2 _ _ eD, il, hX.all _ il (hall _ il fun p hp => by rw [q0] at hp; cases hp)⟩)
  have n0 : 0 < qs.length := by
    have : xs.length ≠ 0 := fun z => e (by rw [z]; rfl)
    omega
  have hgq : ∀ p ∈ qs, p.2.1.length = st.length ∧ ∀ n ∈ p.2.1, Wd 1000 n := fun p hp => hX.good p (hq p hp).1
  refine ⟨_, rfl, _, rfl, a, L, ws, xs, st, qs, rfl, Same.seq sm hS, priTS (tsOf sm) hW, hG, hz, .of hL, hQ, n0, hgq, fun p hp => (hq p hp).2, fun H2 cv s2 hcv => ?_⟩
  obtain ⟨ct, j, c, p, rfl, hct, ep, c1, c2⟩ := hcv
  refine ⟨_, _, rfl, .of hct, rfl, _, _, rfl, _, _, rfl, rfl, ?_⟩
  have sm2 := Same.trans sm s2
  refine ⟨_, rfl, _, rfl, _, rfl, a, ws, st, (j : Int), c, p, rfl, Same.seq sm2 hS, priTS (tsOf sm2) hW, by omega, by simpa using ep, hz, fun R l u ws1 ws2 H3 nR nl nu s3 eR el hA eu hB => ?_⟩
  rw [Int.toNat_natCast] at hA hB
  refine ⟨_, _, rfl, .of eR, rfl, _, _, rfl, _, _, rfl, rfl, ?_⟩
  have sm3 := Same.trans sm2 s3
  have hL3 := s3 _ _ (s2 _ _ hL)
  have hQ3 := nsTS (tsOf (Same.trans s2 s3)) hQ
  have gb := strG_below hG ep c1 c2
  have sz := size_below ep c1 c2
  have hj := (List.getElem?_eq_some_iff.mp ep).1
  have rest : ∀ {st' : List Iv}, StrG st.length st' → (∀ fs, InS st' fs → InS st fs) → Rest ss st' qs := fun hg hs => ⟨fun p hp => hX.at_ p (hq p hp).1, fun fs hi hv => hX.all fs (hs fs hi) (hall fs (hs fs hi) hv), fun p hp => ⟨(hgq p hp).1.trans hg.1.symm, (hgq p hp).2⟩⟩
  have lb : (below st j p c).length = st.length := gb.1.1
  have la : (above st j p c).length = st.length := gb.2.1
  have inb : ∀ fs, InS (below st j p c) fs → InS st fs := fun fs h => ins_wide (r := (p.1, c)) ep (Int.le_refl _) (by dsimp only; omega) h
  have ina : ∀ fs, InS (above st j p c) fs → InS st fs := fun fs h => ins_wide (r := (c + 1, p.2)) ep (by dsimp only; omega) (Int.le_refl _) h
  refine ⟨_, rfl, _, rfl, l, L, ws1, xs, below st j p c, qs, ss, rfl, .of el, hA, (by rw [lb]; exact gb.1), by omega, .of hL3, hQ3, by omega, rest gb.1 inb, by omega, fun H4 R4 tv fv s4 e4 f4 => ?_⟩
  refine ⟨_, _, rfl, .of e4, rfl, _, _, rfl, _, _, rfl, rfl, ?_⟩
  have sm4 := Same.trans sm3 s4
  have hH4 : ∀ {b : Addr}, H3 b = none → H b = none := fun h => Same.free sm3 h
  refine ⟨_, rfl, rfl, _, rfl, ?_⟩
  rcases f4 with ⟨rfl, t1, ht1, hn1, i1⟩ | ⟨rfl, fa, fs, rfl, g1, g2, g3, g4⟩
  case inr =>
    refine iteT ⟨_, rfl, by show 2 ≤ sizeLine; decide, fun T2 nT2 => ?_⟩
    have sT2 := sameNew (o := .tup [.non, .ref fa]) nT2
    exact q _ T2 _ _ (Same.trans sm4 sT2) upd_same (.inr ⟨rfl, fa, fs, rfl, hH4 g1, sT2 _ _ g2, inb fs g3, g4⟩)
  rw [decide_eq_false hn1]
  refine iteF ?_
  have hL4 := s4 _ _ hL3
  refine ⟨_, rfl, _, rfl, u, L, ws2, xs, above st j p c, qs, ss, rfl, .of (s4 _ _ eu), priTS (tsOf s4) hB, (by rw [la]; exact gb.2), by omega, .of hL4, nsTS (tsOf s4) hQ3, by omega, rest gb.2 ina, by omega, fun H5 R5 tv2 fv2 s5 e5 f5 => ?_⟩
  refine ⟨_, _, rfl, .of e5, rfl, _, _, rfl, _, _, rfl, rfl, ?_⟩
  have sm5 := Same.trans sm4 s5
  refine ⟨_, rfl, rfl, _, rfl, ?_⟩
  rcases f5 with ⟨rfl, t2, ht2, hn2, i2⟩ | ⟨rfl, fa, fs, rfl, g1, g2, g3, g4⟩
  case inr =>
    refine iteT ⟨_, rfl, by show 2 ≤ sizeLine; decide, fun T2 nT2 => ?_⟩
    have sT2 := sameNew (o := .tup [.non, .ref fa]) nT2
    exact q _ T2 _ _ (Same.trans sm5 sT2) upd_same (.inr ⟨rfl, fa, fs, rfl, Same.free sm4 g1, sT2 _ _ g2, ina fs g3, g4⟩)
  rw [decide_eq_false hn2]
  refine iteF ?_
  refine ⟨_, rfl, _, rfl, _, rfl, _, rfl, by show 5 ≤ sizeLine; decide, fun T1 nT1 => ⟨by show 2 ≤ sizeLine; decide, fun T2 nT2 => ?_⟩⟩
  have sT1 := sameNew (o := .tup [.str "cut", .int (j : Int), .int c, tv, tv2]) nT1
  have sT2 := sameNew (o := .tup [.ref T1, .non]) nT2
  have sT := Same.trans sT1 sT2
  refine q _ T2 _ _ (Same.trans sm5 sT) upd_same (.inl ⟨rfl, .cut (j : Int) c t1 t2, .cut (.of (sT2 _ _ upd_same)) (trTS (tsOf (Same.trans s5 sT)) ht1) (trTS (tsOf sT) ht2), (by simp), ?_⟩)
  have ep' : st[((j : Nat) : Int).toNat]? = some p := by simpa using ep
  rw [isT_cut ep', Int.toNat_natCast, i1, i2]
  have h0 : (0 : Int) ≤ (j : Int) := by omega
  simp [cutOk, ep, c1, c2, h0]
abbrev s_tried : Stmt := topS 1
theorem sc_tried : FnScope ["stretch", "some"] ["stretch", "some"] (defScope s_tried) := ⟨rfl, rfl, rfl, by decide +kernel, rfl, by decide +kernel, by decide +kernel⟩

def spTried (K : PySem.W.Frag) : Sp := fun vs H Q _ => ∃ (a b : Addr) (ws us : List V) (st : List Iv) (ss : List Sm), vs = [.ref a, .ref b] ∧ SqL K H a ws ∧ A2 (PrI K H) ws st ∧ SqL K H b us ∧ A2 (SumIn K H) us ss ∧ StrG st.length st ∧ st.length ≤ 1000 ∧ ss.length ≤ 1000 ∧ size st ≤ 60 ∧ (∀ s ∈ ss, s.1.length = st.length ∧ ∀ n ∈ s.1, Wd 1000 n) ∧
  ∀ (H' : Hp) (R : Addr) (tv fv : V), Same H H' → H' R = some (.tup [tv, fv]) → Found K H H' tv fv st ss → Q (.ref R) H'
theorem enumIn {H : Hp} {us : List V} {ss : List Sm} {ts : List Addr} (hl : ts.length = us.length) (hU : A2 (SumIn K H) us ss) (hT : ∀ (j : Nat) t x, ts[j]? = some t → us[j]? = some x → H t = some (.tup [.int (j : Int), x])) :
    A2 (NsIn K H) (ts.map V.ref) (ss.zipIdx.map fun p => ((p.2 : Int), p.1)) := by
  have key : ∀ {us : List V} {ss : List Sm} {ts : List Addr} (k : Nat), ts.length = us.length → A2 (SumIn K H) us ss → (∀ (j : Nat) t x, ts[j]? = some t → us[j]? = some x → H t = some (.tup [.int ((k + j : Nat) : Int), x])) → A2 (NsIn K H) (ts.map V.ref) ((ss.zipIdx k).map fun p => ((p.2 : Int), p.1)) := by
    intro us ss ts k hl hU
    induction hU generalizing ts k with
    | nil =>
      intro _
      have : ts = [] := List.eq_nil_of_length_eq_zero hl
      subst this
      exact .nil
    | cons h t ih =>
      intro hT
      cases ts with
      | nil => simp at hl
      | cons t0 tr =>
        rw [List.zipIdx_cons]
        refine .cons ⟨t0, _, rfl, .of (hT 0 t0 _ rfl rfl), h⟩ (ih (k + 1) (by simpa using hl) fun j t x e1 e2 => ?_)
        have := hT (j + 1) t x (by simpa using e1) (by simpa using e2)
        rw [show k + 1 + j = k + (j + 1) by omega]
        exact this
  exact key 0 hl hU fun j t x e1 e2 => by
    rw [Nat.zero_add]
    exact hT j t x e1 e2
theorem ok_tried {f : Addr} {fd : FuncData} {k : Nat} (F : Fun K "tried" "tried" s_tried f fd) (B : Bl mg) (c__tried : C8.Cal P w K mg base k "_tried" (spTr K 61) []) : FnOk P w K mg base CX0 (k + 1) f fd ["stretch", "some"] (spTried K) := by
  refine F.ok sc_tried (fun vs H Q E h => ?_) (fun cdv A outer s H vs Q E hr h => ?_)
  · obtain ⟨a, b, ws, us, st, ss, rfl, _⟩ := h
    rfl
  obtain ⟨a, b, ws, us, st, ss, rfl, hS, hW, hB, hU, hG, hz, hz2, hsz, hs, q⟩ := h
  refine ⟨_, (pss_one (ps_ret (C8.pe_c c__tried hr (Nat.le_refl _) (by rfl) (pa_cons (pe_callTy (kList (K := K) rfl) (by rfl) B.list (by decide +kernel) (pa_cons (pv 0) pa_nil)) (pa_cons (kListE (K := K) rfl rfl (pv 1) (by rfl) B.list (by rfl) B.enumerate) pa_nil))))), ?_⟩
  have lu := hU.len
  refine ⟨_, rfl, a, ws, rfl, .inl hS, fun A1 nA => ?_⟩
  have sA := sameNew (o := .lst ws) nA
  refine ⟨_, rfl, b, us, rfl, Same.seq sA hB, by omega, fun H2 p ts np s2 ep lt hT => ?_⟩
  have s02 := Same.trans sA s2
  have hU2 : A2 (SumIn K H2) us ss := A2.map (B' := ss) (fun _ _ _ r => SumIn.mono s02 r) (fun _ m => m) hU
  have hP := enumIn (by omega) hU2 hT
  have mem : ∀ p ∈ ss.zipIdx.map (fun p => ((p.2 : Int), p.1)), 0 ≤ p.1 ∧ ss[p.1.toNat]? = some p.2 := fun p hp => by
    obtain ⟨⟨s0, i⟩, hm, rfl⟩ := List.mem_map.mp hp
    have := List.mem_zipIdx_iff_getElem?.mp hm
    exact ⟨by dsimp only; omega, by simpa using this⟩
  refine ⟨A1, p, ws, ts.map V.ref, st, ss.zipIdx.map fun p => ((p.2 : Int), p.1), ss, rfl, .of (s2 _ _ upd_same), priTS (tsOf s02) hW, hG, hz, .of ep, hP, by simp; omega, ⟨mem, fun fs _ hv => ?_, fun p hp => ?_⟩, by omega, fun H3 R tv fv s3 e3 f3 => q H3 R tv fv (Same.trans s02 s3) e3 ?_⟩
  · rw [holds, List.all_eq_true]
    intro s0 hs0
    obtain ⟨i, hi⟩ := List.mem_iff_getElem?.mp hs0
    exact decide_eq_true (hv ((i : Int), s0) (List.mem_map.mpr ⟨(s0, i), List.mem_zipIdx_iff_getElem?.mpr hi, rfl⟩))
  · exact hs _ (List.mem_of_getElem? (mem p hp).2)
  · rcases f3 with h | ⟨h1, fa, fs, h2, h3, h4⟩
    · exact .inl h
    · exact .inr ⟨h1, fa, fs, h2, Same.free s02 h3, h4⟩

end

end LW

namespace LW
open PySem PySem.Spec PyProof.Rows L2
local macro_rules | `(tactic| walk_at "go1") => `(tactic| first
  | refine ⟨_, rfl, ?_⟩
  | refine ⟨_, _, rfl, rfl, ?_⟩
  | refine ⟨show (0 : Int) < _ from by omega, ?_⟩
  | refine ⟨show CMul _ _ from by first | exact .inl ⟨by omega, by omega⟩ | exact .inr ⟨by omega, by omega⟩, ?_⟩
  | refine ⟨show CDiv _ _ from ⟨by omega, by omega⟩, ?_⟩)
local macro_rules | `(tactic| walk_at "go") => `(tactic| repeat walk_at "go1")

section
variable {P : Program} {w : World} {K : PySem.W.Frag} {mg : Str → Option Value} {base : Heap}

theorem fnWeak {CX : CXT} {k : Nat} {f : Addr} {fd : FuncData} {ps : List Str} {sp sp' : Sp} (F : FnOk P w K mg base CX k f fd ps sp) (h : ∀ vs H Q E, sp' vs H Q E → sp vs H Q E) : FnOk P w K mg base CX k f fd ps sp' :=
  ⟨fun vs H Q E z => F.1 vs H Q E (h vs H Q E z), fun A outer s H args us vs Q E hr he hb hv z => F.2 A outer s H args us vs Q E hr he hb hv (h vs H Q E z)⟩
theorem strWG {st : List Iv} (h : StrW st) : StrG st.length st := ⟨rfl, fun p hp => by
  have := h.2.2.1 p hp
  omega⟩
theorem strWsize {st : List Iv} (h : StrW st) : size st ≤ 60 := by
  have key : ∀ (l : List Iv), (∀ p ∈ l, p.1 ≤ p.2 ∧ p.2 ≤ p.1 + 9) → size l ≤ 9 * l.length := by
    intro l
    induction l with
    | nil => intro _; simp [size]
    | cons p r ih =>
      intro hp
      have h1 := hp p (List.mem_cons_self ..)
      have h2 := ih fun q hq => hp q (List.mem_cons_of_mem _ hq)
      simp only [size, List.map_cons, List.sum_cons, List.length_cons] at h2 ⊢
      omega
  have := key st fun p hp => by
    have := h.2.2.1 p hp
    omega
  have := h.2.1
  omega
theorem sumWG {n : Nat} {s : Sm} (h : SumW n s) : s.1.length = n ∧ ∀ x ∈ s.1, Wd 1000 x := ⟨h.1, fun x hx => by
  have := h.2.1 x hx
  exact wdInt (by omega) (by omega)⟩
theorem tried_weak (vs : List V) (H : Hp) (Q : VK) (E : XK) (h : spTriedP K vs H Q E) : spTried K vs H Q E := by
  obtain ⟨a, b, ws, us, st, ss, e, hA, hW, hB, hU, hst, hs, h1, h6, q⟩ := h
  refine ⟨a, b, ws, us, st, ss, e, .of hA, hW, .of hB, hU, strWG hst, by have := hst.2.1; omega, by omega, strWsize hst, fun s hs' => sumWG (hs s hs'), fun H' R tv fv sm eR hf => q H' R tv fv sm (.of eR) ?_⟩
  rcases hf with ⟨e1, t, h1, _, h2⟩ | ⟨e1, fa, fs, h1, h2, h3, h4, h5⟩
  · exact .inl ⟨e1, t, h1, h2⟩
  · exact .inr ⟨e1, fa, fs, h1, h2, h3, allIn_of h4, h5⟩
theorem tree_weak (vs : List V) (H : Hp) (Q : VK) (E : XK) (h : spTreeP K vs H Q E) : spTreeG K vs H Q E := by
  obtain ⟨a, b, tv, st, us, ss, t, e, hA, hB, hU, hst, hs, h6, hT, hd, hn, q⟩ := h
  exact ⟨a, b, tv, st, us, ss, t, e, hA, hB, hU, strWG hst, by have := hst.2.1; omega, fun s hs' => sumWG (hs s hs'), hT, by omega, hn, q⟩

end

end LW

namespace LW
open PySem PySem.Spec PyProof.Rows L2
theorem calMk {P : Program} {w : World} {K : PySem.W.Frag} {mg : Str → Option Value} {base : Heap} {j k : Nat} {x : Str} {sp : Sp} {f : Addr} {fd : FuncData} {ps : List Str} (F : FnOk P w K mg base CX0 j f fd ps sp) (hm : mg x = some (.ref f)) (kp : PySem.W.keepIn K (.ref f) = true) (b : Binds K fd ps []) (h : j ≤ k) : C8.Cal P w K mg base k x sp [] :=
  ⟨f, fd, ps, [], F.mono h, hm, kp, b, .nil⟩
theorem all_mk {l : PySem.W.OpenLaw} {w : World} {K : PySem.W.Frag} {h : Heap} {mg : Str → Option Value} {fa : Addr} (X : K.In h) (G : h.Ns mainGlobals mg) (hfa : mg "law" = some (.ref fa))
    {f1 : Addr} {od1 an1 : Option Addr} {sl1 : Array (Option Value)} {oc1 kV1 dc1 pm1 cd1 ct1 : Value} (a1 : PySem.W.nsIn K mainGlobals "tried" = some (some (.ref f1))) (l1 : K.lookup f1 = some ⟨oc1, od1, .func (PySem.W.fnOf "tried" "tried" (defArgs s_tried) (defBody s_tried) (defScope s_tried) .none kV1 dc1 pm1 an1 cd1 ct1), sl1⟩) (c1 : PySem.W.codeIn K cd1 "tried" = true) (k1 : PySem.W.keepIn K (.ref f1) = true)
    {f2 : Addr} {od2 an2 : Option Addr} {sl2 : Array (Option Value)} {oc2 kV2 dc2 pm2 cd2 ct2 : Value} (a2 : PySem.W.nsIn K mainGlobals "is_tree" = some (some (.ref f2))) (l2 : K.lookup f2 = some ⟨oc2, od2, .func (PySem.W.fnOf "is_tree" "is_tree" (defArgs s_is_tree) (defBody s_is_tree) (defScope s_is_tree) .none kV2 dc2 pm2 an2 cd2 ct2), sl2⟩) (c2 : PySem.W.codeIn K cd2 "is_tree" = true) (k2 : PySem.W.keepIn K (.ref f2) = true)
    {f3 : Addr} {od3 an3 : Option Addr} {sl3 : Array (Option Value)} {oc3 kV3 dc3 pm3 cd3 ct3 : Value} (a3 : PySem.W.nsIn K mainGlobals "_tried" = some (some (.ref f3))) (l3 : K.lookup f3 = some ⟨oc3, od3, .func (PySem.W.fnOf "_tried" "_tried" (defArgs s__tried) (defBody s__tried) (defScope s__tried) .none kV3 dc3 pm3 an3 cd3 ct3), sl3⟩) (c3 : PySem.W.codeIn K cd3 "_tried" = true) (k3 : PySem.W.keepIn K (.ref f3) = true)
    {f4 : Addr} {od4 an4 : Option Addr} {sl4 : Array (Option Value)} {oc4 kV4 dc4 pm4 cd4 ct4 : Value} (a4 : PySem.W.nsIn K mainGlobals "_where_to_cut" = some (some (.ref f4))) (l4 : K.lookup f4 = some ⟨oc4, od4, .func (PySem.W.fnOf "_where_to_cut" "_where_to_cut" (defArgs s__where_to_cut) (defBody s__where_to_cut) (defScope s__where_to_cut) .none kV4 dc4 pm4 an4 cd4 ct4), sl4⟩) (c4 : PySem.W.codeIn K cd4 "_where_to_cut" = true) (k4 : PySem.W.keepIn K (.ref f4) = true)
    {f5 : Addr} {od5 an5 : Option Addr} {sl5 : Array (Option Value)} {oc5 kV5 dc5 pm5 cd5 ct5 : Value} (a5 : PySem.W.nsIn K mainGlobals "_cut" = some (some (.ref f5))) (l5 : K.lookup f5 = some ⟨oc5, od5, .func (PySem.W.fnOf "_cut" "_cut" (defArgs s__cut) (defBody s__cut) (defScope s__cut) .none kV5 dc5 pm5 an5 cd5 ct5), sl5⟩) (c5 : PySem.W.codeIn K cd5 "_cut" = true) (k5 : PySem.W.keepIn K (.ref f5) = true)
    {f6 : Addr} {od6 an6 : Option Addr} {sl6 : Array (Option Value)} {oc6 kV6 dc6 pm6 cd6 ct6 : Value} (a6 : PySem.W.nsIn K mainGlobals "_least_and_most" = some (some (.ref f6))) (l6 : K.lookup f6 = some ⟨oc6, od6, .func (PySem.W.fnOf "_least_and_most" "_least_and_most" (defArgs s__least_and_most) (defBody s__least_and_most) (defScope s__least_and_most) .none kV6 dc6 pm6 an6 cd6 ct6), sl6⟩) (c6 : PySem.W.codeIn K cd6 "_least_and_most" = true) (k6 : PySem.W.keepIn K (.ref f6) = true)
    {f7 : Addr} {od7 an7 : Option Addr} {sl7 : Array (Option Value)} {oc7 kV7 dc7 pm7 cd7 ct7 : Value} (a7 : PySem.W.nsIn K mainGlobals "_is_cut" = some (some (.ref f7))) (l7 : K.lookup f7 = some ⟨oc7, od7, .func (PySem.W.fnOf "_is_cut" "_is_cut" (defArgs s__is_cut) (defBody s__is_cut) (defScope s__is_cut) .none kV7 dc7 pm7 an7 cd7 ct7), sl7⟩) (c7 : PySem.W.codeIn K cd7 "_is_cut" = true) (k7 : PySem.W.keepIn K (.ref f7) = true)
    {f8 : Addr} {od8 an8 : Option Addr} {sl8 : Array (Option Value)} {oc8 kV8 dc8 pm8 cd8 ct8 : Value} (a8 : PySem.W.nsIn K mainGlobals "_is_end" = some (some (.ref f8))) (l8 : K.lookup f8 = some ⟨oc8, od8, .func (PySem.W.fnOf "_is_end" "_is_end" (defArgs s__is_end) (defBody s__is_end) (defScope s__is_end) .none kV8 dc8 pm8 an8 cd8 ct8), sl8⟩) (c8 : PySem.W.codeIn K cd8 "_is_end" = true) (k8 : PySem.W.keepIn K (.ref f8) = true)
    {f9 : Addr} {od9 an9 : Option Addr} {sl9 : Array (Option Value)} {oc9 kV9 dc9 pm9 cd9 ct9 : Value} (a9 : PySem.W.nsIn K mainGlobals "_law_at" = some (some (.ref f9))) (l9 : K.lookup f9 = some ⟨oc9, od9, .func (PySem.W.fnOf "_law_at" "_law_at" (defArgs s__law_at) (defBody s__law_at) (defScope s__law_at) .none kV9 dc9 pm9 an9 cd9 ct9), sl9⟩) (c9 : PySem.W.codeIn K cd9 "_law_at" = true) (k9 : PySem.W.keepIn K (.ref f9) = true)
    {f10 : Addr} {od10 an10 : Option Addr} {sl10 : Array (Option Value)} {oc10 kV10 dc10 pm10 cd10 ct10 : Value} (a10 : PySem.W.nsIn K mainGlobals "_law_whole" = some (some (.ref f10))) (l10 : K.lookup f10 = some ⟨oc10, od10, .func (PySem.W.fnOf "_law_whole" "_law_whole" (defArgs s__law_whole) (defBody s__law_whole) (defScope s__law_whole) .none kV10 dc10 pm10 an10 cd10 ct10), sl10⟩) (c10 : PySem.W.codeIn K cd10 "_law_whole" = true) (k10 : PySem.W.keepIn K (.ref f10) = true)
    {f11 : Addr} {od11 an11 : Option Addr} {sl11 : Array (Option Value)} {oc11 kV11 dc11 pm11 cd11 ct11 : Value} (a11 : PySem.W.nsIn K mainGlobals "_law_value" = some (some (.ref f11))) (l11 : K.lookup f11 = some ⟨oc11, od11, .func (PySem.W.fnOf "_law_value" "_law_value" (defArgs s__law_value) (defBody s__law_value) (defScope s__law_value) .none kV11 dc11 pm11 an11 cd11 ct11), sl11⟩) (c11 : PySem.W.codeIn K cd11 "_law_value" = true) (k11 : PySem.W.keepIn K (.ref f11) = true)
    {f12 : Addr} {od12 an12 : Option Addr} {sl12 : Array (Option Value)} {oc12 kV12 dc12 pm12 cd12 ct12 : Value} (a12 : PySem.W.nsIn K mainGlobals "_law_unit" = some (some (.ref f12))) (l12 : K.lookup f12 = some ⟨oc12, od12, .func (PySem.W.fnOf "_law_unit" "_law_unit" (defArgs s__law_unit) (defBody s__law_unit) (defScope s__law_unit) .none kV12 dc12 pm12 an12 cd12 ct12), sl12⟩) (c12 : PySem.W.codeIn K cd12 "_law_unit" = true) (k12 : PySem.W.keepIn K (.ref f12) = true)
    {f13 : Addr} {od13 an13 : Option Addr} {sl13 : Array (Option Value)} {oc13 kV13 dc13 pm13 cd13 ct13 : Value} (a13 : PySem.W.nsIn K mainGlobals "_law_word" = some (some (.ref f13))) (l13 : K.lookup f13 = some ⟨oc13, od13, .func (PySem.W.fnOf "_law_word" "_law_word" (defArgs s__law_word) (defBody s__law_word) (defScope s__law_word) .none kV13 dc13 pm13 an13 cd13 ct13), sl13⟩) (c13 : PySem.W.codeIn K cd13 "_law_word" = true) (k13 : PySem.W.keepIn K (.ref f13) = true)
    {f14 : Addr} {od14 an14 : Option Addr} {sl14 : Array (Option Value)} {oc14 kV14 dc14 pm14 cd14 ct14 : Value} (a14 : PySem.W.nsIn K mainGlobals "_law_least" = some (some (.ref f14))) (l14 : K.lookup f14 = some ⟨oc14, od14, .func (PySem.W.fnOf "_law_least" "_law_least" (defArgs s__law_least) (defBody s__law_least) (defScope s__law_least) .none kV14 dc14 pm14 an14 cd14 ct14), sl14⟩) (c14 : PySem.W.codeIn K cd14 "_law_least" = true) (k14 : PySem.W.keepIn K (.ref f14) = true)
    {f15 : Addr} {od15 an15 : Option Addr} {sl15 : Array (Option Value)} {oc15 kV15 dc15 pm15 cd15 ct15 : Value} (a15 : PySem.W.nsIn K mainGlobals "_law_is_tree" = some (some (.ref f15))) (l15 : K.lookup f15 = some ⟨oc15, od15, .func (PySem.W.fnOf "_law_is_tree" "_law_is_tree" (defArgs s__law_is_tree) (defBody s__law_is_tree) (defScope s__law_is_tree) .none kV15 dc15 pm15 an15 cd15 ct15), sl15⟩) (c15 : PySem.W.codeIn K cd15 "_law_is_tree" = true) (k15 : PySem.W.keepIn K (.ref f15) = true)
    {f16 : Addr} {od16 an16 : Option Addr} {sl16 : Array (Option Value)} {oc16 kV16 dc16 pm16 cd16 ct16 : Value} (a16 : PySem.W.nsIn K mainGlobals "_law_stretch" = some (some (.ref f16))) (l16 : K.lookup f16 = some ⟨oc16, od16, .func (PySem.W.fnOf "_law_stretch" "_law_stretch" (defArgs s__law_stretch) (defBody s__law_stretch) (defScope s__law_stretch) .none kV16 dc16 pm16 an16 cd16 ct16), sl16⟩) (c16 : PySem.W.codeIn K cd16 "_law_stretch" = true) (k16 : PySem.W.keepIn K (.ref f16) = true)
    {f17 : Addr} {od17 an17 : Option Addr} {sl17 : Array (Option Value)} {oc17 kV17 dc17 pm17 cd17 ct17 : Value} (a17 : PySem.W.nsIn K mainGlobals "_law_all_in" = some (some (.ref f17))) (l17 : K.lookup f17 = some ⟨oc17, od17, .func (PySem.W.fnOf "_law_all_in" "_law_all_in" (defArgs s__law_all_in) (defBody s__law_all_in) (defScope s__law_all_in) .none kV17 dc17 pm17 an17 cd17 ct17), sl17⟩) (c17 : PySem.W.codeIn K cd17 "_law_all_in" = true) (k17 : PySem.W.keepIn K (.ref f17) = true)
    {f18 : Addr} {od18 an18 : Option Addr} {sl18 : Array (Option Value)} {oc18 kV18 dc18 pm18 cd18 ct18 : Value} (a18 : PySem.W.nsIn K mainGlobals "_law_holds" = some (some (.ref f18))) (l18 : K.lookup f18 = some ⟨oc18, od18, .func (PySem.W.fnOf "_law_holds" "_law_holds" (defArgs s__law_holds) (defBody s__law_holds) (defScope s__law_holds) .none kV18 dc18 pm18 an18 cd18 ct18), sl18⟩) (c18 : PySem.W.codeIn K cd18 "_law_holds" = true) (k18 : PySem.W.keepIn K (.ref f18) = true)
    {f19 : Addr} {od19 an19 : Option Addr} {sl19 : Array (Option Value)} {oc19 kV19 dc19 pm19 cd19 ct19 : Value} (a19 : PySem.W.nsIn K mainGlobals "_law_changed" = some (some (.ref f19))) (l19 : K.lookup f19 = some ⟨oc19, od19, .func (PySem.W.fnOf "_law_changed" "_law_changed" (defArgs s__law_changed) (defBody s__law_changed) (defScope s__law_changed) .none kV19 dc19 pm19 an19 cd19 ct19), sl19⟩) (c19 : PySem.W.codeIn K cd19 "_law_changed" = true) (k19 : PySem.W.keepIn K (.ref f19) = true)
    {f20 : Addr} {od20 an20 : Option Addr} {sl20 : Array (Option Value)} {oc20 kV20 dc20 pm20 cd20 ct20 : Value} (a20 : PySem.W.nsIn K mainGlobals "_law_trees_right" = some (some (.ref f20))) (l20 : K.lookup f20 = some ⟨oc20, od20, .func (PySem.W.fnOf "_law_trees_right" "_law_trees_right" (defArgs s__law_trees_right) (defBody s__law_trees_right) (defScope s__law_trees_right) .none kV20 dc20 pm20 an20 cd20 ct20), sl20⟩) (c20 : PySem.W.codeIn K cd20 "_law_trees_right" = true) (k20 : PySem.W.keepIn K (.ref f20) = true)
    {f21 : Addr} {od21 an21 : Option Addr} {sl21 : Array (Option Value)} {oc21 kV21 dc21 pm21 cd21 ct21 : Value} (a21 : PySem.W.nsIn K mainGlobals "law" = some (some (.ref f21))) (l21 : K.lookup f21 = some ⟨oc21, od21, .func (PySem.W.fnOf "law" "law" (defArgs s_law) (defBody s_law) (defScope s_law) .none kV21 dc21 pm21 an21 cd21 ct21), sl21⟩) (c21 : PySem.W.codeIn K cd21 "law" = true) (k21 : PySem.W.keepIn K (.ref f21) = true)
    (z_len : PySem.W.nsIn K mainGlobals "len" = some none) (z_range : PySem.W.nsIn K mainGlobals "range" = some none) (z_zip : PySem.W.nsIn K mainGlobals "zip" = some none) (z_enumerate : PySem.W.nsIn K mainGlobals "enumerate" = some none) (z_sum : PySem.W.nsIn K mainGlobals "sum" = some none) (z_all : PySem.W.nsIn K mainGlobals "all" = some none) (z_tuple : PySem.W.nsIn K mainGlobals "tuple" = some none) (z_list : PySem.W.nsIn K mainGlobals "list" = some none) (z_isinstance : PySem.W.nsIn K mainGlobals "isinstance" = some none) (z_int : PySem.W.nsIn K mainGlobals "int" = some none) (z_bool : PySem.W.nsIn K mainGlobals "bool" = some none) (z_str : PySem.W.nsIn K mainGlobals "str" = some none) (z_type : PySem.W.nsIn K mainGlobals "type" = some none) (z_min : PySem.W.nsIn K mainGlobals "min" = some none) (z_abs : PySem.W.nsIn K mainGlobals "abs" = some none) :
    ∃ fd : FuncData, (∀ (s : Shared) (v : Value), BindsTo s fd ⟨[v], []⟩ [("_law_script", v)]) ∧ ∀ base : Heap, K.In base → base.Ns mainGlobals mg → FnOk l.prog w K mg base CX0 71 fa fd ["_law_script"] (spLaw K) := by
  have e := hfa.symm.trans (PySem.W.mg_of X G a21)
  cases e
  have F1 := fun_mk (st := s_tried) l1 c1 k1
  have b1 := F1.binds (ps := ["stretch", "some"]) fun _ _ _ _ _ _ us hl => match us, hl with | [_, _], _ => rfl
  have m1 := PySem.W.mg_of X G a1
  have F2 := fun_mk (st := s_is_tree) l2 c2 k2
  have b2 := F2.binds (ps := ["stretch", "some", "tree"]) fun _ _ _ _ _ _ us hl => match us, hl with | [_, _, _], _ => rfl
  have m2 := PySem.W.mg_of X G a2
  have F3 := fun_mk (st := s__tried) l3 c3 k3
  have b3 := F3.binds (ps := ["stretch", "ahead"]) fun _ _ _ _ _ _ us hl => match us, hl with | [_, _], _ => rfl
  have m3 := PySem.W.mg_of X G a3
  have F4 := fun_mk (st := s__where_to_cut) l4 c4 k4
  have b4 := F4.binds (ps := ["stretch", "rest"]) fun _ _ _ _ _ _ us hl => match us, hl with | [_, _], _ => rfl
  have m4 := PySem.W.mg_of X G a4
  have F5 := fun_mk (st := s__cut) l5 c5 k5
  have b5 := F5.binds (ps := ["stretch", "box", "at"]) fun _ _ _ _ _ _ us hl => match us, hl with | [_, _, _], _ => rfl
  have m5 := PySem.W.mg_of X G a5
  have F6 := fun_mk (st := s__least_and_most) l6 c6 k6
  have b6 := F6.binds (ps := ["one", "stretch"]) fun _ _ _ _ _ _ us hl => match us, hl with | [_, _], _ => rfl
  have m6 := PySem.W.mg_of X G a6
  have F7 := fun_mk (st := s__is_cut) l7 c7 k7
  have b7 := F7.binds (ps := ["stretch", "part"]) fun _ _ _ _ _ _ us hl => match us, hl with | [_, _], _ => rfl
  have m7 := PySem.W.mg_of X G a7
  have F8 := fun_mk (st := s__is_end) l8 c8 k8
  have b8 := F8.binds (ps := ["stretch", "some", "part"]) fun _ _ _ _ _ _ us hl => match us, hl with | [_, _, _], _ => rfl
  have m8 := PySem.W.mg_of X G a8
  have F9 := fun_mk (st := s__law_at) l9 c9 k9
  have b9 := F9.binds (ps := ["_law_script", "_law_k"]) fun _ _ _ _ _ _ us hl => match us, hl with | [_, _], _ => rfl
  have m9 := PySem.W.mg_of X G a9
  have F10 := fun_mk (st := s__law_whole) l10 c10 k10
  have b10 := F10.binds (ps := ["_law_thing"]) fun _ _ _ _ _ _ us hl => match us, hl with | [_], _ => rfl
  have m10 := PySem.W.mg_of X G a10
  have F11 := fun_mk (st := s__law_value) l11 c11 k11
  have b11 := F11.binds (ps := ["_law_one", "_law_filling"]) fun _ _ _ _ _ _ us hl => match us, hl with | [_, _], _ => rfl
  have m11 := PySem.W.mg_of X G a11
  have F12 := fun_mk (st := s__law_unit) l12 c12 k12
  have b12 := F12.binds (ps := ["_law_many", "_law_box", "_law_number", "_law_more"]) fun _ _ _ _ _ _ us hl => match us, hl with | [_, _, _, _], _ => rfl
  have m12 := PySem.W.mg_of X G a12
  have F13 := fun_mk (st := s__law_word) l13 c13 k13
  have b13 := F13.binds (ps := ["_law_cell", "_law_many"]) fun _ _ _ _ _ _ us hl => match us, hl with | [_, _], _ => rfl
  have m13 := PySem.W.mg_of X G a13
  have F14 := fun_mk (st := s__law_least) l14 c14 k14
  have b14 := F14.binds (ps := ["_law_one", "_law_stretch_here"]) fun _ _ _ _ _ _ us hl => match us, hl with | [_, _], _ => rfl
  have m14 := PySem.W.mg_of X G a14
  have F15 := fun_mk (st := s__law_is_tree) l15 c15 k15
  have b15 := F15.binds (ps := ["_law_stretch_here", "_law_some", "_law_tree"]) fun _ _ _ _ _ _ us hl => match us, hl with | [_, _, _], _ => rfl
  have m15 := PySem.W.mg_of X G a15
  have F16 := fun_mk (st := s__law_stretch) l16 c16 k16
  have b16 := F16.binds (ps := ["_law_script"]) fun _ _ _ _ _ _ us hl => match us, hl with | [_], _ => rfl
  have m16 := PySem.W.mg_of X G a16
  have F17 := fun_mk (st := s__law_all_in) l17 c17 k17
  have b17 := F17.binds (ps := ["_law_stretch_here"]) fun _ _ _ _ _ _ us hl => match us, hl with | [_], _ => rfl
  have m17 := PySem.W.mg_of X G a17
  have F18 := fun_mk (st := s__law_holds) l18 c18 k18
  have b18 := F18.binds (ps := ["_law_some", "_law_filling"]) fun _ _ _ _ _ _ us hl => match us, hl with | [_, _], _ => rfl
  have m18 := PySem.W.mg_of X G a18
  have F19 := fun_mk (st := s__law_changed) l19 c19 k19
  have b19 := F19.binds (ps := ["_law_tree", "_law_cells"]) fun _ _ _ _ _ _ us hl => match us, hl with | [_, _], _ => rfl
  have m19 := PySem.W.mg_of X G a19
  have F20 := fun_mk (st := s__law_trees_right) l20 c20 k20
  have b20 := F20.binds (ps := ["_law_stretch_here", "_law_some", "_law_tree", "_law_script"]) fun _ _ _ _ _ _ us hl => match us, hl with | [_, _, _, _], _ => rfl
  have m20 := PySem.W.mg_of X G a20
  have F21 := fun_mk (st := s_law) l21 c21 k21
  have m21 := PySem.W.mg_of X G a21
  have B : Bl mg := ⟨PySem.W.mg_none_of X G z_len, PySem.W.mg_none_of X G z_range, PySem.W.mg_none_of X G z_zip, PySem.W.mg_none_of X G z_enumerate, PySem.W.mg_none_of X G z_sum, PySem.W.mg_none_of X G z_all, PySem.W.mg_none_of X G z_tuple, PySem.W.mg_none_of X G z_list, PySem.W.mg_none_of X G z_isinstance, PySem.W.mg_none_of X G z_int, PySem.W.mg_none_of X G z_bool, PySem.W.mg_none_of X G z_str, PySem.W.mg_none_of X G z_type⟩
  have nmin : mg "min" = none := PySem.W.mg_none_of X G z_min
  have nabs : mg "abs" = none := PySem.W.mg_none_of X G z_abs
  refine ⟨PySem.W.fnOf "law" "law" (defArgs s_law) (defBody s_law) (defScope s_law) .none kV21 dc21 pm21 an21 cd21 ct21, fun s v => .of_eq rfl, fun base _ _ => ?_⟩
  have vac : ∀ {f : Addr} {fd : FuncData} {ps : List Str} {sp : Sp} {n : Nat}, (∀ vs H Q E, ¬ sp vs H Q E) → FnOk l.prog w K mg base CX0 n f fd ps sp := fun h => ⟨fun vs H Q E z => absurd z (h vs H Q E), fun A outer s H args us vs Q E hr he hb hv z => absurd z (h vs H Q E)⟩
  have g__least_and_most := ok__least_and_most (P := l.prog) (w := w) (mg := mg) (base := base) (k := 0) F6 B 
  have g__cut := ok__cut (P := l.prog) (w := w) (mg := mg) (base := base) (k := 0) F5 B 
  have g__is_cut := ok__is_cut (P := l.prog) (w := w) (mg := mg) (base := base) (k := 0) F7 B 
  have g__is_end := ok__is_end (P := l.prog) (w := w) (mg := mg) (base := base) (k := 1) F8 B (calMk g__least_and_most m6 k6 b6 (by omega))
  have g_is_tree := ok_is_tree (P := l.prog) (w := w) (mg := mg) (base := base) (k := 2) F2 B (calMk g__is_cut m7 k7 b7 (by omega)) (calMk g__is_end m8 k8 b8 (by omega)) (calMk g__cut m5 k5 b5 (by omega))
  have g__where_to_cut := ok__where_to_cut (P := l.prog) (w := w) (mg := mg) (base := base) (k := 1) F4 B nabs (calMk g__least_and_most m6 k6 b6 (by omega))
  have g__tried : ∀ i : Nat, FnOk l.prog w K mg base CX0 (i + 2) f3 (PySem.W.fnOf "_tried" "_tried" (defArgs s__tried) (defBody s__tried) (defScope s__tried) .none kV3 dc3 pm3 an3 cd3 ct3) ["stretch", "ahead"] (spTr K i) := by
    intro i
    induction i with
    | zero => exact vac (by rintro vs H Q E ⟨a, r, ws, rs, st, ps, ss, _, _, _, _, _, _, _, _, _, h1, _⟩; omega)
    | succ i ih => exact ok__tried (k := i + 2) F3 B (calMk g__least_and_most m6 k6 b6 (by omega)) (calMk g__where_to_cut m4 k4 b4 (by omega)) (calMk g__cut m5 k5 b5 (by omega)) (calMk ih m3 k3 b3 (by omega))
  have g_tried := ok_tried (P := l.prog) (w := w) (mg := mg) (base := base) (k := 63) F1 B (calMk (g__tried 61) m3 k3 b3 (by omega))
  have g__law_at := ok__law_at (P := l.prog) (w := w) (mg := mg) (base := base) (k := 0) F9 B 
  have g__law_whole := ok__law_whole (P := l.prog) (w := w) (mg := mg) (base := base) (k := 0) F10 B 
  have g__law_value := ok__law_value (P := l.prog) (w := w) (mg := mg) (base := base) (k := 0) F11 B 
  have g__law_unit := ok__law_unit (P := l.prog) (w := w) (mg := mg) (base := base) (k := 0) F12 B 
  have g__law_word := ok__law_word (P := l.prog) (w := w) (mg := mg) (base := base) (k := 1) F13 B (calMk g__law_unit m12 k12 b12 (by omega))
  have g__law_least := ok__law_least (P := l.prog) (w := w) (mg := mg) (base := base) (k := 0) F14 B nmin
  have g__law_is_tree : ∀ i : Nat, FnOk l.prog w K mg base CX0 (i + 2) f15 (PySem.W.fnOf "_law_is_tree" "_law_is_tree" (defArgs s__law_is_tree) (defBody s__law_is_tree) (defScope s__law_is_tree) .none kV15 dc15 pm15 an15 cd15 ct15) ["_law_stretch_here", "_law_some", "_law_tree"] (spIsT K i) := by
    intro i
    induction i with
    | zero => exact vac (by rintro vs H Q E ⟨a, b, tv, st, us, ss, t, _, _, _, _, _, _, _, h1, _⟩; have := t.deep_pos; omega)
    | succ i ih => exact ok__law_is_tree (k := i + 2) F15 B (calMk g__law_whole m10 k10 b10 (by omega)) (calMk g__law_least m14 k14 b14 (by omega)) (calMk ih m15 k15 b15 (by omega))
  have g__law_stretch := ok__law_stretch (P := l.prog) (w := w) (mg := mg) (base := base) (k := 1) F16 B (calMk g__law_at m9 k9 b9 (by omega))
  have g__law_all_in := ok__law_all_in (P := l.prog) (w := w) (mg := mg) (base := base) (k := 0) F17 B 
  have g__law_holds := ok__law_holds (P := l.prog) (w := w) (mg := mg) (base := base) (k := 1) F18 B (calMk g__law_value m11 k11 b11 (by omega))
  have g__law_changed : ∀ i : Nat, FnOk l.prog w K mg base CX0 (i + 1) f19 (PySem.W.fnOf "_law_changed" "_law_changed" (defArgs s__law_changed) (defBody s__law_changed) (defScope s__law_changed) .none kV19 dc19 pm19 an19 cd19 ct19) ["_law_tree", "_law_cells"] (spCh K i) := by
    intro i
    induction i with
    | zero => exact vac (by rintro vs H Q E ⟨tv, ca, t, cs, _, _, _, _, h1, _⟩; omega)
    | succ i ih => exact ok__law_changed (k := i + 1) F19 B (calMk ih m19 k19 b19 (by omega))
  have g__law_trees_right := ok__law_trees_right (P := l.prog) (w := w) (mg := mg) (base := base) (k := 60) F20 B (calMk g__law_at m9 k9 b9 (by omega)) (calMk (g__law_changed 5) m19 k19 b19 (by omega)) (calMk (fnWeak g_is_tree tree_weak) m2 k2 b2 (by omega)) (calMk (g__law_is_tree 50) m15 k15 b15 (by omega))
  exact ok_law (k := 70) F21 B (calMk g__law_at m9 k9 b9 (by omega)) (calMk g__law_stretch m16 k16 b16 (by omega)) (calMk g__law_word m13 k13 b13 (by omega)) (calMk g__law_all_in m17 k17 b17 (by omega)) (calMk g__law_holds m18 k18 b18 (by omega)) (calMk (fnWeak g_tried tried_weak) m1 k1 b1 (by omega)) (calMk (g__law_is_tree 50) m15 k15 b15 (by omega)) (calMk g__law_trees_right m20 k20 b20 (by omega))
theorem walk {l : PySem.W.OpenLaw} {q : Program} {loose : List Str} {XP : (Str → Option Value) → Heap → Prop} {YP : World → Heap → Prop} {d : DefRec} {K : Params → PySem.W.Frag} (hn : l.most = some 63) (hdf : d.params.defaults = [])
    (hY : ∀ (w : World) (h : Heap), YP w h → (K w.params).In h)
    (F : ∀ (w : World) (mg : Str → Option Value) (fa : Addr) (h : Heap), (K w.params).In h → h.Ns mainGlobals mg → mg d.name = some (.ref fa) →
      ∃ fd : FuncData, (∀ (s : Shared) (u : Value), BindsTo s fd ⟨[u], []⟩ [("_law_script", u)]) ∧ ∀ base : Heap, (K w.params).In base → base.Ns mainGlobals mg → FnOk l.prog w (K w.params) mg base CX0 71 fa fd ["_law_script"] (spLaw (K w.params))) :
    PySem.W.WalkO q loose XP YP l.row.toRowW d [] (fun f vs => PySem.call f vs) :=
  L2.walk_of (n := 63) (k := 71) (x := "_law_script") (CX := fun _ => CX0) (sp := fun w => spLaw (K w.params)) hn (by decide) hdf ⟨rfl, by decide, by decide⟩ hY F (fun _ _ a ns hl _ hS => ⟨a, ns, rfl, hS, hl, fun _ => rfl⟩) fun _ _ _ _ _ z => z
end LW
open PySem PySem.W PyProof.Rows
set_option maxRecDepth 100000 in
set_option maxHeartbeats 0 in
theorem PySem.Challenge.cw_loopwords_k07_whole_trees_holds : PySem.Challenge.rw_loopwords_k07_whole_trees.Holds := by
  w_on; o_law; k_head; (case hw => w_witness2)
  k_fill
  refine LW.walk (l := PySem.Challenge.rw_loopwords_k07_whole_trees) rfl rfl (fun w h Y => PySem.W.kIn_of Y) ?F
  case F =>
    intro w mg fa h KX G hmg
    refine' LW.all_mk KX G hmg ?a1 ?l1 ?c1 ?k1 ?a2 ?l2 ?c2 ?k2 ?a3 ?l3 ?c3 ?k3 ?a4 ?l4 ?c4 ?k4 ?a5 ?l5 ?c5 ?k5 ?a6 ?l6 ?c6 ?k6 ?a7 ?l7 ?c7 ?k7 ?a8 ?l8 ?c8 ?k8 ?a9 ?l9 ?c9 ?k9 ?a10 ?l10 ?c10 ?k10 ?a11 ?l11 ?c11 ?k11 ?a12 ?l12 ?c12 ?k12 ?a13 ?l13 ?c13 ?k13 ?a14 ?l14 ?c14 ?k14 ?a15 ?l15 ?c15 ?k15 ?a16 ?l16 ?c16 ?k16 ?a17 ?l17 ?c17 ?k17 ?a18 ?l18 ?c18 ?k18 ?a19 ?l19 ?c19 ?k19 ?a20 ?l20 ?c20 ?k20 ?a21 ?l21 ?c21 ?k21 ?z_len ?z_range ?z_zip ?z_enumerate ?z_sum ?z_all ?z_tuple ?z_list ?z_isinstance ?z_int ?z_bool ?z_str ?z_type ?z_min ?z_abs
    (case a1 => k_is)
    (case l1 => k_is)
    (case c1 => k_is)
    (case k1 => k_is)
    (case a2 => k_is)
    (case l2 => k_is)
    (case c2 => k_is)
    (case k2 => k_is)
    (case a3 => k_is)
    (case l3 => k_is)
    (case c3 => k_is)
    (case k3 => k_is)
    (case a4 => k_is)
    (case l4 => k_is)
    (case c4 => k_is)
    (case k4 => k_is)
    (case a5 => k_is)
    (case l5 => k_is)
    (case c5 => k_is)
    (case k5 => k_is)
    (case a6 => k_is)
    (case l6 => k_is)
    (case c6 => k_is)
    (case k6 => k_is)
    (case a7 => k_is)
    (case l7 => k_is)
    (case c7 => k_is)
    (case k7 => k_is)
    (case a8 => k_is)
    (case l8 => k_is)
    (case c8 => k_is)
    (case k8 => k_is)
    (case a9 => k_is)
    (case l9 => k_is)
    (case c9 => k_is)
    (case k9 => k_is)
    (case a10 => k_is)
    (case l10 => k_is)
    (case c10 => k_is)
    (case k10 => k_is)
    (case a11 => k_is)
    (case l11 => k_is)
    (case c11 => k_is)
    (case k11 => k_is)
    (case a12 => k_is)
    (case l12 => k_is)
    (case c12 => k_is)
    (case k12 => k_is)
    (case a13 => k_is)
    (case l13 => k_is)
    (case c13 => k_is)
    (case k13 => k_is)
    (case a14 => k_is)
    (case l14 => k_is)
    (case c14 => k_is)
    (case k14 => k_is)
    (case a15 => k_is)
    (case l15 => k_is)
    (case c15 => k_is)
    (case k15 => k_is)
    (case a16 => k_is)
    (case l16 => k_is)
    (case c16 => k_is)
    (case k16 => k_is)
    (case a17 => k_is)
    (case l17 => k_is)
    (case c17 => k_is)
    (case k17 => k_is)
    (case a18 => k_is)
    (case l18 => k_is)
    (case c18 => k_is)
    (case k18 => k_is)
    (case a19 => k_is)
    (case l19 => k_is)
    (case c19 => k_is)
    (case k19 => k_is)
    (case a20 => k_is)
    (case l20 => k_is)
    (case c20 => k_is)
    (case k20 => k_is)
    (case a21 => k_is)
    (case l21 => k_is)
    (case c21 => k_is)
    (case k21 => k_is)
    (case z_len => k_is)
    (case z_range => k_is)
    (case z_zip => k_is)
    (case z_enumerate => k_is)
    (case z_sum => k_is)
    (case z_all => k_is)
    (case z_tuple => k_is)
    (case z_list => k_is)
    (case z_isinstance => k_is)
    (case z_int => k_is)
    (case z_bool => k_is)
    (case z_str => k_is)
    (case z_type => k_is)
    (case z_min => k_is)
    (case z_abs => k_is)
