import PyProof.Rows.All
import Wide.All
import OpenK.AllK
import Wide.FinOn
import PyProof.EqAt
import PyProof.EqKinds
import PyProof.TupleCall
import HandS.ForMost
import HandS.ForExc
import HandS.Evl
import HandS.Codes
import HandS.IsInst
import HandS.Property
import HandS.Style
import HandS.RevRange
import HandS.Nested
import HandS.Flow
import HandS.ExcIs
import HandS.RaiseMore
import HandS.FStr
import HandS.Property
import PySem.Challenge.RW_turnstile_k02_bounds_made
set_option Elab.async false
set_option linter.all false
set_option maxRecDepth 100000
set_option maxHeartbeats 1000000
namespace Tk
open PySem PySem.Spec PyProof.Rows L2 Evl
/-! Big steps over the readings: what a block hands back, or with which slots it falls through; the heap only grows. -/
def Rt (t : TS) (σ : L2.St) (H : Hp) (v : V) : Prop := ∀ H1, Ex H H1 → ∀ D : Ends, (∀ H2, Ex H1 H2 → D.rt v H2) → t D σ H1
def Nx (t : TS) (σ : L2.St) (H : Hp) (σ' : L2.St) : Prop := ∀ H1, Ex H H1 → ∀ D : Ends, (∀ H2, Ex H1 H2 → D.nx σ' H2) → t D σ H1
/-- .. a value by what is true of it and the heap -/
def RtW (t : TS) (σ : L2.St) (H : Hp) (W : V → Hp → Prop) : Prop := ∀ H1, Ex H H1 → ∀ D : Ends, (∀ v H2, Ex H1 H2 → W v H2 → D.rt v H2) → t D σ H1
def EvW (te : TE) (σ : L2.St) (H : Hp) (W : V → Hp → Prop) : Prop := ∀ H1, Ex H H1 → ∀ Q : VK, (∀ v H2, Ex H1 H2 → W v H2 → Q v H2) → te σ H1 Q
section
variable {σ σ' σ'' : L2.St} {H H' : Hp} {v x y z : V} {te ta tb : TE} {t u tw tz : TS} {c c2 : TT} {b : Bool} {W : V → Hp → Prop} {K : PySem.W.Frag} {r : R2}
theorem Rt.mono (e : Ex H H') (h : Rt t σ H v) : Rt t σ H' v := fun H1 a D q => h H1 (e.trans a) D q
theorem Nx.mono (e : Ex H H') (h : Nx t σ H σ') : Nx t σ H' σ' := fun H1 a D q => h H1 (e.trans a) D q
theorem Rt.w (h : Rt t σ H v) (hw : ∀ H1, Ex H H1 → W v H1) : RtW t σ H W := fun H1 e D q => h H1 e D fun H2 e2 => q v H2 e2 (hw H2 (e.trans e2))
theorem Rt.is (h : Rt t σ H x) (e : x = y) : Rt t σ H y := e ▸ h
theorem Nx.is (h : Nx t σ H σ') (e : σ' = σ'') : Nx t σ H σ'' := e ▸ h
theorem rt_ret (h : Ev te σ H v) : Rt (tRet te) σ H v := fun H1 e D q => h H1 e _ fun H2 e2 => q H2 e2
theorem rt_retN : Rt tRetN σ H .non := fun H1 _ D q => q H1 (Ex.refl H1)
theorem rtw_ret (h : EvW te σ H W) : RtW (tRet te) σ H W := fun H1 e D q => h H1 e _ fun v H2 e2 w => q v H2 e2 w
theorem rt_seq (h : Nx t σ H σ') (k : Rt u σ' H v) : Rt (tSeq t u) σ H v := fun H1 e D q => h H1 e { D with nx := u D } fun H2 e2 => k H2 (e.trans e2) D fun H3 e3 => q H3 (e2.trans e3)
theorem rtw_seq (h : Nx t σ H σ') (k : RtW u σ' H W) : RtW (tSeq t u) σ H W := fun H1 e D q => h H1 e { D with nx := u D } fun H2 e2 => k H2 (e.trans e2) D fun v H3 e3 w => q v H3 (e2.trans e3) w
theorem rt_now (h : Rt t σ H v) : Rt (tSeq t u) σ H v := fun H1 e D q => h H1 e { D with nx := u D } q
theorem rtw_now (h : RtW t σ H W) : RtW (tSeq t u) σ H W := fun H1 e D q => h H1 e { D with nx := u D } q
theorem nx_seq (h : Nx t σ H σ') (k : Nx u σ' H σ'') : Nx (tSeq t u) σ H σ'' := fun H1 e D q => h H1 e { D with nx := u D } fun H2 e2 => k H2 (e.trans e2) D fun H3 e3 => q H3 (e2.trans e3)
theorem nx_next : Nx tNext σ H σ := fun H1 _ D q => q H1 (Ex.refl H1)
theorem nx_asg {i : Nat} (h : Ev te σ H v) : Nx (tAsg te (gName i)) σ H (σ.set i (some v)) := fun H1 e D q => h H1 e _ fun H2 e2 => q H2 e2
theorem nx_drop (h : Ev te σ H v) : Nx (tDrop te) σ H σ := fun H1 e D q => h H1 e _ fun H2 e2 => q H2 e2
theorem nx_aug {i : Nat} {f : Int → Int → Int} {a d : Int} (hx : σ[i]? = some (some (.int a))) (h : Ev te σ H (.int d)) : Nx (tAug i te (ipI f)) σ H (σ.set i (some (.int (f a d)))) := fun H1 e D q =>
  ⟨.int a, hx, h H1 e _ fun H2 e2 => ⟨a, d, rfl, rfl, q H2 e2⟩⟩
theorem rt_if (h : EvT c σ H b) (h1 : b = true → Rt t σ H v) (h2 : b = false → Rt u σ H v) : Rt (tIfS c t u) σ H v := fun H1 e D q => h H1 e _ fun H2 e2 => by
  cases b with
  | true =>
    show t D σ H2
    exact h1 rfl H2 (e.trans e2) D fun H3 e3 => q H3 (e2.trans e3)
  | false =>
    show u D σ H2
    exact h2 rfl H2 (e.trans e2) D fun H3 e3 => q H3 (e2.trans e3)
theorem rtw_if (h : EvT c σ H b) (h1 : b = true → RtW t σ H W) (h2 : b = false → RtW u σ H W) : RtW (tIfS c t u) σ H W := fun H1 e D q => h H1 e _ fun H2 e2 => by
  cases b with
  | true =>
    show t D σ H2
    exact h1 rfl H2 (e.trans e2) D fun v H3 e3 w => q v H3 (e2.trans e3) w
  | false =>
    show u D σ H2
    exact h2 rfl H2 (e.trans e2) D fun v H3 e3 w => q v H3 (e2.trans e3) w
theorem nx_if (h : EvT c σ H b) (h1 : b = true → Nx t σ H σ') (h2 : b = false → Nx u σ H σ') : Nx (tIfS c t u) σ H σ' := fun H1 e D q => h H1 e _ fun H2 e2 => by
  cases b with
  | true =>
    show t D σ H2
    exact h1 rfl H2 (e.trans e2) D fun H3 e3 => q H3 (e2.trans e3)
  | false =>
    show u D σ H2
    exact h2 rfl H2 (e.trans e2) D fun H3 e3 => q H3 (e2.trans e3)
/-- if c: leaves; rest -/
theorem rt_ifseq (h : EvT c σ H b) (h1 : b = true → Rt t σ H v) (h2 : b = false → Rt tz σ H v) : Rt (tSeq (tIfS c t tNext) tz) σ H v := fun H1 e D q => h H1 e _ fun H2 e2 => by
  cases b with
  | true =>
    show t { D with nx := tz D } σ H2
    exact h1 rfl H2 (e.trans e2) _ fun H3 e3 => q H3 (e2.trans e3)
  | false =>
    show tz D σ H2
    exact h2 rfl H2 (e.trans e2) D fun H3 e3 => q H3 (e2.trans e3)
theorem rtw_ifseq (h : EvT c σ H b) (h1 : b = true → RtW t σ H W) (h2 : b = false → RtW tz σ H W) : RtW (tSeq (tIfS c t tNext) tz) σ H W := fun H1 e D q => h H1 e _ fun H2 e2 => by
  cases b with
  | true =>
    show t { D with nx := tz D } σ H2
    exact h1 rfl H2 (e.trans e2) _ fun v H3 e3 w => q v H3 (e2.trans e3) w
  | false =>
    show tz D σ H2
    exact h2 rfl H2 (e.trans e2) D fun v H3 e3 w => q v H3 (e2.trans e3) w
theorem Rt.fin {Q : VK} {N : L2.St → Hp → Prop} (h : Rt t σ H v) (k : RetV v H Q) : t { nx := N, rt := Q } σ H := h H (Ex.refl H) _ fun H2 e => k H2 e
theorem RtW.fin {Q : VK} {N : L2.St → Hp → Prop} (h : RtW t σ H W) (k : ∀ v H2, Ex H H2 → W v H2 → Q v H2) : t { nx := N, rt := Q } σ H := h H (Ex.refl H) _ fun v H2 e w => k v H2 e w
/-! loops whose turns are known: s i are the slots ahead of turn i -/
def GNx (g : TG) (u : TS) (x : V) (σ : L2.St) (H : Hp) (σ' : L2.St) : Prop := ∀ H1, Ex H H1 → ∀ D : Ends, (∀ H2, Ex H1 H2 → D.nx σ' H2) → g x σ H1 fun σ2 H2 => u D σ2 H2
def GRtW (g : TG) (u : TS) (x : V) (σ : L2.St) (H : Hp) (W : V → Hp → Prop) : Prop := ∀ H1, Ex H H1 → ∀ D : Ends, (∀ v H2, Ex H1 H2 → W v H2 → D.rt v H2) → g x σ H1 fun σ2 H2 => u D σ2 H2
structure Gen (J : It) (items : Nat → V) (n : Nat) (H : Hp) : Prop where
  go : ∀ i H1, Ex H H1 → i < n → J.go i H1
  yld : ∀ i x H1 H2, Ex H H1 → i < n → J.yld i H1 x H2 → H2 = H1 ∧ x = items i
  stop : ∀ H1, Ex H H1 → J.stop n H1
theorem gnx_name {j : Nat} (h : Nx u (σ.set j (some x)) H σ') : GNx (gName j) u x σ H σ' := fun H1 e D q => h H1 e D q
theorem grt_name {j : Nat} (h : Rt u (σ.set j (some x)) H v) : GRtW (gName j) u x σ H (fun v' _ => v' = v) := fun H1 e D q => h H1 e D fun H2 e2 => q v H2 e2 rfl
theorem grtw_name {j : Nat} (h : RtW u (σ.set j (some x)) H W) : GRtW (gName j) u x σ H W := fun H1 e D q => h H1 e D q
theorem gen_r {lo : Int} {n : Nat} : Gen (Itr lo n) (fun i => .int (lo + (i : Int))) n H := ⟨fun _ _ _ h => h, fun _ _ _ _ _ _ y => y, fun _ _ => Nat.le_refl _⟩
theorem gen_c {lo d : Int} {n : Nat} : Gen (Itc lo d n) (fun i => .int (lo + (i : Nat) * d)) n H := ⟨fun _ _ _ h => h, fun _ _ _ _ _ _ y => y, fun _ _ => Nat.le_refl _⟩
theorem gen_l {a : Addr} {xs : List V} {d : V} (h : SqL K H a xs) : Gen (Itl K a) (fun i => xs.getD i d) xs.length H :=
  ⟨fun i H1 e hi => ⟨xs, xs[i], ex_l e h, by simp [hi]⟩, fun i x H1 H2 e hi y => by
    obtain ⟨y1, y2⟩ := y
    refine ⟨y1, ?_⟩
    have z : xs[i]? = some x := y2 xs (ex_l e h)
    rw [List.getD_eq_getElem?_getD, z]
    rfl, fun H1 e => ⟨xs, ex_l e h, Nat.le_refl _⟩⟩
theorem gen_t {a : Addr} {xs : List V} {d : V} (h : SqT K H a xs) : Gen (Itt K a) (fun i => xs.getD i d) xs.length H :=
  ⟨fun i H1 e hi => ⟨xs, xs[i], ex_t e h, by simp [hi]⟩, fun i x H1 H2 e hi y => by
    obtain ⟨y1, y2⟩ := y
    refine ⟨y1, ?_⟩
    have z : xs[i]? = some x := y2 xs (ex_t e h)
    rw [List.getD_eq_getElem?_getD, z]
    rfl, fun H1 e => ⟨xs, ex_t e h, Nat.le_refl _⟩⟩
theorem for_nx {J : It} {items : Nat → V} {n : Nat} {g : TG} {H1 : Hp} {D : Ends} (s : Nat → L2.St) (G : Gen J items n H) (e : Ex H H1) (hs : ∀ i, i < n → GNx g u (items i) (s i) H (s (i + 1))) (q : ∀ H2, Ex H1 H2 → D.nx (s n) H2) :
    ∃ W : Nat → Nat → L2.St → Hp → Prop, (∃ m, W 0 m (s 0) H1) ∧ ∀ i m σ H, W i m σ H →
      (J.stop i H ∧ D.nx σ H) ∨ (J.go i H ∧ ∃ N : L2.St → Hp → Prop, (∀ σ' H', N σ' H' → ∃ m', m' < m ∧ W (i + 1) m' σ' H') ∧ ∀ x H', J.yld i H x H' → g x σ H' fun σ2 H2 => u { D with nx := N, ct := N, bk := D.nx } σ2 H2) := by
  refine ⟨fun i m σ H2 => m = n - i ∧ i ≤ n ∧ σ = s i ∧ Ex H1 H2, ⟨n, by simp, Nat.zero_le _, rfl, Ex.refl _⟩, ?_⟩
  rintro i m σ H2 ⟨rfl, hi, rfl, e2⟩
  by_cases hlt : i < n
  · refine .inr ⟨G.go i H2 (e.trans e2) hlt, fun σ' H' => σ' = s (i + 1) ∧ Ex H1 H', fun σ' H' p => ⟨n - (i + 1), by omega, rfl, hlt, p.1, p.2⟩, fun x H' y => ?_⟩
    obtain ⟨rfl, rfl⟩ := G.yld i x H2 H' (e.trans e2) hlt y
    exact hs i hlt _ (e.trans e2) _ fun H3 e3 => ⟨rfl, e2.trans e3⟩
  · obtain rfl : i = n := by omega
    exact .inl ⟨G.stop _ (e.trans e2), q _ e2⟩
theorem for_rt {J : It} {items : Nat → V} {n k : Nat} {g : TG} {H1 : Hp} {D : Ends} (s : Nat → L2.St) (G : Gen J items n H) (e : Ex H H1) (hk : k < n) (hs : ∀ i, i < k → GNx g u (items i) (s i) H (s (i + 1))) (hr : GRtW g u (items k) (s k) H W) (q : ∀ v H2, Ex H1 H2 → W v H2 → D.rt v H2) :
    ∃ W : Nat → Nat → L2.St → Hp → Prop, (∃ m, W 0 m (s 0) H1) ∧ ∀ i m σ H, W i m σ H →
      (J.stop i H ∧ D.nx σ H) ∨ (J.go i H ∧ ∃ N : L2.St → Hp → Prop, (∀ σ' H', N σ' H' → ∃ m', m' < m ∧ W (i + 1) m' σ' H') ∧ ∀ x H', J.yld i H x H' → g x σ H' fun σ2 H2 => u { D with nx := N, ct := N, bk := D.nx } σ2 H2) := by
  refine ⟨fun i m σ H2 => m = n - i ∧ i ≤ k ∧ σ = s i ∧ Ex H1 H2, ⟨n, by simp, Nat.zero_le _, rfl, Ex.refl _⟩, ?_⟩
  rintro i m σ H2 ⟨rfl, hi, rfl, e2⟩
  by_cases hlt : i < k
  · refine .inr ⟨G.go i H2 (e.trans e2) (by omega), fun σ' H' => σ' = s (i + 1) ∧ Ex H1 H', fun σ' H' p => ⟨n - (i + 1), by omega, rfl, hlt, p.1, p.2⟩, fun x H' y => ?_⟩
    obtain ⟨rfl, rfl⟩ := G.yld i x H2 H' (e.trans e2) (by omega) y
    exact hs i hlt _ (e.trans e2) _ fun H3 e3 => ⟨rfl, e2.trans e3⟩
  · obtain rfl : i = k := by omega
    refine .inr ⟨G.go _ H2 (e.trans e2) hk, fun _ _ => False, fun _ _ p => p.elim, fun x H' y => ?_⟩
    obtain ⟨rfl, rfl⟩ := G.yld _ x H2 H' (e.trans e2) hk y
    exact hr _ (e.trans e2) _ fun v H3 e3 w => q v H3 (e2.trans e3) w
/-- what a for walks, told at a heap -/
def EvI (wi : TI) (σ : L2.St) (H : Hp) (items : Nat → V) (n : Nat) : Prop := ∀ H1, Ex H H1 → ∀ R : It → Hp → Prop, (∀ J H2, Ex H1 H2 → Gen J items n H2 → R J H2) → wi σ H1 R
theorem ei_r1 {ta : TA} {n : Int} (h : EvA ta σ H [.int n]) (h1 : -(2 ^ 62) ≤ n) (h2 : n < 2 ^ 62) : EvI (iRng1 ta) σ H (fun i => .int (0 + (i : Int))) n.toNat := fun H1 e R q =>
  h H1 e _ fun H2 e2 => ⟨n, rfl, h1, h2, q _ H2 e2 gen_r⟩
theorem ei_r2 {ta : TA} {a n : Int} (h : EvA ta σ H [.int a, .int n]) (h1 : -(2 ^ 62) ≤ a ∧ a < 2 ^ 62 ∧ -(2 ^ 62) ≤ n ∧ n < 2 ^ 62) : EvI (iRng2 ta) σ H (fun i => .int (a + (i : Int))) (n - a).toNat := fun H1 e R q =>
  h H1 e _ fun H2 e2 => ⟨a, n, rfl, h1, q _ H2 e2 gen_r⟩
theorem ei_r3 {ta : TA} {a n d : Int} {m : Nat} (h : EvA ta σ H [.int a, .int n, .int d]) (h1 : RgC a n d m) : EvI (iRng3 ta) σ H (fun i => .int (a + (i : Nat) * d)) m := fun H1 e R q =>
  h H1 e _ fun H2 e2 => ⟨a, n, d, m, rfl, h1, q _ H2 e2 gen_c⟩
theorem ei_l {a : Addr} {xs : List V} (d : V) (h : Ev te σ H (.ref a)) (hx : SqL K H a xs) : EvI (iList K te) σ H (fun i => xs.getD i d) xs.length := fun H1 e R q =>
  h H1 e _ fun H2 e2 => ⟨a, rfl, ⟨xs, ex_l (e.trans e2) hx⟩, q _ H2 e2 (gen_l (ex_l (e.trans e2) hx))⟩
theorem ei_t {a : Addr} {xs : List V} (d : V) (h : Ev te σ H (.ref a)) (hx : SqT K H a xs) : EvI (iTup K te) σ H (fun i => xs.getD i d) xs.length := fun H1 e R q =>
  h H1 e _ fun H2 e2 => ⟨a, rfl, ⟨xs, ex_t (e.trans e2) hx⟩, q _ H2 e2 (gen_t (ex_t (e.trans e2) hx))⟩
/-- over a new tuple -/
theorem ei_tN {xs : List V} (d : V) (h : EvU te σ H xs) : EvI (iTup K te) σ H (fun i => xs.getD i d) xs.length := fun H1 e R q =>
  h H1 e _ fun p H2 _ e2 hp => ⟨p, rfl, ⟨xs, st_of hp⟩, q _ H2 e2 (gen_t (st_of hp))⟩
theorem GNx.mono {g : TG} (e : Ex H H') (h : GNx g u x σ H σ') : GNx g u x σ H' σ' := fun H1 a D q => h H1 (e.trans a) D q
theorem GRtW.mono {g : TG} (e : Ex H H') (h : GRtW g u x σ H W) : GRtW g u x σ H' W := fun H1 a D q => h H1 (e.trans a) D q
theorem nx_for {wi : TI} {items : Nat → V} {n : Nat} {g : TG} (s : Nat → L2.St) (h : EvI wi (s 0) H items n) (hs : ∀ i, i < n → GNx g u (items i) (s i) H (s (i + 1))) : Nx (tFor wi g u) (s 0) H (s n) := fun H1 e D q =>
  h H1 e _ fun J H2 e2 G => for_nx s G (Ex.refl H2) (fun i hi => (hs i hi).mono (e.trans e2)) fun H3 e3 => q H3 (e2.trans e3)
theorem rtw_for {wi : TI} {items : Nat → V} {n : Nat} {g : TG} (k : Nat) (s : Nat → L2.St) (h : EvI wi (s 0) H items n) (hk : k < n) (hs : ∀ i, i < k → GNx g u (items i) (s i) H (s (i + 1))) (hr : GRtW g u (items k) (s k) H W) : RtW (tFor wi g u) (s 0) H W := fun H1 e D q =>
  h H1 e _ fun J H2 e2 G => for_rt s G (Ex.refl H2) hk (fun i hi => (hs i hi).mono (e.trans e2)) (hr.mono (e.trans e2)) fun v H3 e3 w => q v H3 (e2.trans e3) w
theorem RtW.toV (h : RtW t σ H (fun v' _ => v' = v)) : Rt t σ H v := fun H1 e D q => h H1 e D fun v' H2 e2 w => by rw [w]; exact q H2 e2
theorem Rt.toW (h : Rt t σ H v) : RtW t σ H (fun v' _ => v' = v) := fun H1 e D q => h H1 e D fun H2 e2 => q v H2 e2 rfl
theorem rt_for {wi : TI} {items : Nat → V} {n : Nat} {g : TG} (k : Nat) (s : Nat → L2.St) (h : EvI wi (s 0) H items n) (hk : k < n) (hs : ∀ i, i < k → GNx g u (items i) (s i) H (s (i + 1))) (hr : GRtW g u (items k) (s k) H (fun v' _ => v' = v)) : Rt (tFor wi g u) (s 0) H v :=
  (rtw_for k s h hk hs hr).toV
theorem nx_while (m : Nat) (s : Nat → L2.St) (hs : ∀ i, i < m → EvT c (s i) H true ∧ Nx u (s i) H (s (i + 1))) (hd : EvT c (s m) H false) : Nx (tWhile c u) (s 0) H (s m) := fun H1 e D q =>
  ⟨fun k σ H2 => ∃ i, i ≤ m ∧ k = m - i ∧ σ = s i ∧ Ex H1 H2, ⟨m, 0, Nat.zero_le _, rfl, rfl, Ex.refl _⟩, fun k σ H2 ⟨i, hi, hk, hσ, e2⟩ => by
    subst hk hσ
    by_cases hlt : i < m
    · obtain ⟨h1, h2⟩ := hs i hlt
      refine h1 H2 (e.trans e2) _ fun H3 e3 => ?_
      refine ⟨fun σ' H' => σ' = s (i + 1) ∧ Ex H1 H', fun σ' H' p => ⟨m - (i + 1), by omega, i + 1, hlt, rfl, p.1, p.2⟩, ?_⟩
      exact h2 H3 ((e.trans e2).trans e3) _ fun H4 e4 => ⟨rfl, (e2.trans e3).trans e4⟩
    · obtain rfl : i = m := by omega
      refine hd H2 (e.trans e2) _ fun H3 e3 => ?_
      exact q H3 (e2.trans e3)⟩
/-! tuples as targets, items of displays -/
theorem gnx_tup2 {i j : Nat} {a : Addr} {y : V} (h : SqT K H a [x, y]) (k : Nx u ((σ.set i (some x)).set j (some y)) H σ') : GNx (gTup K 2 (gCons (gName i) (gCons (gName j) gNil))) u (.ref a) σ H σ' := fun H1 e D q =>
  ⟨a, [x, y], rfl, ex_t e h, rfl, x, [y], rfl, y, [], rfl, rfl, k H1 e D q⟩
/-- (..)[i], [..][i] of a display -/
theorem ev_ixNL {xs : List V} {i : Int} (ha : EvL ta σ H xs) (hb : Ev tb σ H (.int i)) (hv : atI xs i = some v) : Ev (tOp (rIxL K) ta tb) σ H v := fun H1 e Q q =>
  ha H1 e _ fun p H2 _ e2 hp => hb H2 (e.trans e2) _ fun H3 e3 => ⟨p, xs, i, v, rfl, rfl, sq_of (e3 p _ hp), hv, q H3 (e2.trans e3)⟩
theorem ev_ixL {p : Addr} {xs : List V} {i : Int} (ha : Ev ta σ H (.ref p)) (hb : Ev tb σ H (.int i)) (hx : SqL K H p xs) (hv : atI xs i = some v) : Ev (tOp (rIxL K) ta tb) σ H v := ev_op ha hb (rv_ixL hx hv)
theorem ev_ixT {p : Addr} {xs : List V} {i : Int} (ha : Ev ta σ H (.ref p)) (hb : Ev tb σ H (.int i)) (hx : SqT K H p xs) (hv : atI xs i = some v) : Ev (tOp (rIxT K) ta tb) σ H v := ev_op ha hb (rv_ixT hx hv)
/-- is None, is not None -/
theorem ev_isN (ha : Ev ta σ H x) : Ev (tIsN ta) σ H (.bl (decide (x = .non))) := fun H1 e Q q => ha H1 e _ fun H2 e2 => q H2 e2
theorem ev_notN (ha : Ev ta σ H x) : Ev (tNotN ta) σ H (.bl (!decide (x = .non))) := fun H1 e Q q => ha H1 e _ fun H2 e2 => q H2 e2
/-- a < b < c -/
theorem ev_chain {tc : TE} {r' : R2} {w : V} {b1 b2 : Bool} (ha : Ev ta σ H x) (hb : Ev tb σ H y) (hr : RV r x y H (.bl b1)) (hc : b1 = true → Ev tc σ H w) (hr' : b1 = true → RV r' y w H (.bl b2)) : Ev (tChain r r' ta tb tc) σ H (.bl (b1 && b2)) := fun H1 e Q q =>
  ha H1 e _ fun H2 e2 => hb H2 (e.trans e2) _ fun H3 e3 => hr H3 ((e.trans e2).trans e3) _ fun H4 e4 => ⟨b1, rfl, by
    cases b1 with
    | true =>
      show tc σ H4 fun w' H5 => r' y w' H5 Q
      exact hc rfl H4 (((e.trans e2).trans e3).trans e4) _ fun H5 e5 => hr' rfl H5 ((((e.trans e2).trans e3).trans e4).trans e5) Q fun H6 e6 => q H6 ((((e2.trans e3).trans e4).trans e5).trans e6)
    | false =>
      show Q (.bl false) H4
      exact q H4 ((e2.trans e3).trans e4)⟩
/-- calls of built-ins by values -/
theorem ev_max {i j : Int} (ha : Ev ta σ H (.int i)) (hb : Ev tb σ H (.int j)) : Ev (tCB (fun xs H Q => ∃ i j, xs = [.int i, .int j] ∧ Q (.int (if j > i then j else i)) H) (tCons ta (tCons tb tNil))) σ H (.int (max i j)) := fun H1 e Q q =>
  ha H1 e _ fun H2 e2 => hb H2 (e.trans e2) _ fun H3 e3 => ⟨i, j, rfl, by
    have z : (if j > i then j else i) = max i j := by
      by_cases h : j > i
      · rw [if_pos h]; omega
      · rw [if_neg h]; omega
    rw [z]
    exact q H3 (e2.trans e3)⟩
theorem ev_min {i j : Int} (ha : Ev ta σ H (.int i)) (hb : Ev tb σ H (.int j)) : Ev (tCB (fun xs H Q => ∃ i j, xs = [.int i, .int j] ∧ Q (.int (if j < i then j else i)) H) (tCons ta (tCons tb tNil))) σ H (.int (min i j)) := fun H1 e Q q =>
  ha H1 e _ fun H2 e2 => hb H2 (e.trans e2) _ fun H3 e3 => ⟨i, j, rfl, by
    have z : (if j < i then j else i) = min i j := by
      by_cases h : j < i
      · rw [if_pos h]; omega
      · rw [if_neg h]; omega
    rw [z]
    exact q H3 (e2.trans e3)⟩
theorem ev_intB {k : Bool} (ha : Ev ta σ H (.bl k)) : Ev (tCB (fun xs H Q => (∃ i, xs = [.int i] ∧ Q (.int i) H) ∨ ∃ k, xs = [.bl k] ∧ Q (.int (if k then 1 else 0)) H) (tCons ta tNil)) σ H (.int (if k then 1 else 0)) := fun H1 e Q q =>
  ha H1 e _ fun H2 e2 => .inr ⟨k, rfl, q H2 e2⟩
theorem ev_lenL {p : Addr} {xs : List V} (ha : Ev ta σ H (.ref p)) (hx : SqL K H p xs) : Ev (tCB (fun xs H Q => ∃ p ys, xs = [.ref p] ∧ (SqL K H p ys ∨ SqT K H p ys) ∧ Q (.int ys.length) H) (tCons ta tNil)) σ H (.int (xs.length : Int)) := fun H1 e Q q =>
  ha H1 e _ fun H2 e2 => ⟨p, xs, rfl, .inl (ex_l (e.trans e2) hx), q H2 e2⟩
theorem ev_lenI {p : Addr} {ns : List Int} (ha : Ev ta σ H (.ref p)) (hx : SqL K H p (ns.map V.int)) : Ev (tCB (fun xs H Q => ∃ p ys, xs = [.ref p] ∧ (SqL K H p ys ∨ SqT K H p ys) ∧ Q (.int ys.length) H) (tCons ta tNil)) σ H (.int (ns.length : Int)) := by
  have h := ev_lenL (K := K) ha hx
  rw [List.length_map] at h
  exact h
/-- a display's item -/
theorem ev_ixN {tv : TA} {vs : List V} {i : Int} (ha : EvA tv σ H vs) (hb : Ev tb σ H (.int i)) (hl : vs.length ≤ 100000) (hv : atI vs i = some v) : Ev (tOp (rIxL K) (tLst tv) tb) σ H v := ev_ixNL (el_lst ha hl) hb hv
/-- isinstance -/
theorem ev_isi {te2 : TE} {cv : V} {tv uv : Value} {k : Bool} (ha : Ev ta σ H x) (hb : Ev te2 σ H cv) (hc : ClsV cv uv) (ht : ∀ H1, Ex H H1 → TyX K H1 x tv) (hk : PySem.W.kitOne K tv uv = some k) : Ev (tCB (rIsi K) (tCons ta (tCons te2 tNil))) σ H (.bl k) := fun H1 e Q q =>
  ha H1 e _ fun H2 e2 => hb H2 (e.trans e2) _ fun H3 e3 => ⟨x, cv, tv, uv, k, rfl, hc, ht H3 ((e.trans e2).trans e3), hk, q H3 (e2.trans e3)⟩
/-- data compared -/
theorem rv_eqD {d f : PySem.PyData} (hd : ∀ H1, Ex H H1 → Dp K H1 x d) (hf : ∀ H1, Ex H H1 → Dp K H1 y f) (sd : PySem.SeqAt.shaped d = true) (sf : PySem.SeqAt.shaped f = true) : RV (rEqD K) x y H (.bl (PySem.PyData.eqv d f)) := fun H1 e Q q => ⟨d, f, hd H1 e, hf H1 e, sd, sf, q H1 (Ex.refl _)⟩
theorem rv_neD {d f : PySem.PyData} (hd : ∀ H1, Ex H H1 → Dp K H1 x d) (hf : ∀ H1, Ex H H1 → Dp K H1 y f) (sd : PySem.SeqAt.shaped d = true) (sf : PySem.SeqAt.shaped f = true) : RV (rNeD K) x y H (.bl (!PySem.PyData.eqv d f)) := fun H1 e Q q => ⟨d, f, hd H1 e, hf H1 e, sd, sf, q H1 (Ex.refl _)⟩
/-! promises of defs that hand back a value and change nothing: R arguments heap value -/
def spF (R : List V → Hp → V → Prop) : Sp := fun vs H Q _ => ∃ v, (∀ H1, Ex H H1 → R vs H1 v) ∧ RetV v H Q
theorem ev_callF {R : List V → Hp → V → Prop} {ta : TA} {vs : List V} {E : XK} (h : EvA ta σ H vs) (hR : ∀ H1, Ex H H1 → R vs H1 v) : Ev (tCall (spF R) [] E ta) σ H v := fun H1 e Q q =>
  h H1 e _ fun H2 e2 => by
    rw [List.append_nil]
    exact ⟨v, fun H3 e3 => hR H3 ((e.trans e2).trans e3), fun H3 e3 => q H3 (e2.trans e3)⟩
/-- .. a value by what is true of it -/
def spW (R : List V → Hp → (V → Hp → Prop) → Prop) : Sp := fun vs H Q _ => ∃ W : V → Hp → Prop, (∀ H1, Ex H H1 → R vs H1 W) ∧ ∀ v H2, Ex H H2 → W v H2 → Q v H2
theorem evw_callW {R : List V → Hp → (V → Hp → Prop) → Prop} {ta : TA} {vs : List V} {E : XK} (h : EvA ta σ H vs) (hR : ∀ H1, Ex H H1 → R vs H1 W) : EvW (tCall (spW R) [] E ta) σ H W := fun H1 e Q q =>
  h H1 e _ fun H2 e2 => by
    rw [List.append_nil]
    exact ⟨W, fun H3 e3 => hR H3 ((e.trans e2).trans e3), fun v H3 e3 w => q v H3 (e2.trans e3) w⟩
theorem evw_tup {vs : List V} (h : EvU te σ H vs) : EvW te σ H (fun v H1 => ∃ p, v = .ref p ∧ H1 p = some (.tup vs)) := fun H1 e Q q => h H1 e _ fun p H2 _ e2 hp => q _ H2 e2 ⟨p, rfl, hp⟩
theorem evw_v (h : Ev te σ H v) (hw : ∀ H1, Ex H H1 → W v H1) : EvW te σ H W := fun H1 e Q q => h H1 e _ fun H2 e2 => q v H2 e2 (hw H2 (e.trans e2))
end
section
open C8 (Def Fun Cal Met Mak)
variable {P : Program} {w : World} {K : PySem.W.Frag} {mg : Str → Option Value} {base : Heap}
/-- a def that hands back a value, by its body -/
theorem calF {x : Str} {st : Stmt} {f : Addr} {fd : FuncData} {N ps : List Str} {k : Nat} {R : List V → Hp → V → Prop} (F : C8.Def K mg x st f fd) (b : Binds K fd ps []) (S : FnScope N ps (C8.fnScope st)) (len : ∀ vs H v, R vs H v → vs.length = ps.length)
    (hbody : ∀ (cdv : Value) (A : Around) (outer : List Env) (s : Shared) (H : Hp) (vs : List V) (v : V) (E : XK), Room k (A.deeper (envOfC x (C8.fnScope st) s.heap.objs.size f cdv)) → R vs H v →
      ∃ t, PSs (cxOf C8.CX0 P w K mg base N x (C8.fnScope st) f cdv A outer s H E).nox (C8.fnBody st) t ∧ Rt t (start N vs) H v) : C8.Cal P w K mg base (k + 1) x (spF R) [] :=
  C8.cal0 F b .nil S (fun vs H Q E ⟨v, h, _⟩ => len vs H v (h H (Ex.refl H))) fun cdv A outer s H vs Q E hr ⟨v, h, k⟩ => by
    obtain ⟨t, h1, h2⟩ := hbody cdv A outer s H vs v E hr (h H (Ex.refl H))
    exact ⟨t, h1, h2.fin k⟩
theorem calW {x : Str} {st : Stmt} {f : Addr} {fd : FuncData} {N ps : List Str} {k : Nat} {R : List V → Hp → (V → Hp → Prop) → Prop} (F : C8.Def K mg x st f fd) (b : Binds K fd ps []) (S : FnScope N ps (C8.fnScope st)) (len : ∀ vs H v, R vs H v → vs.length = ps.length)
    (hbody : ∀ (cdv : Value) (A : Around) (outer : List Env) (s : Shared) (H : Hp) (vs : List V) (W : V → Hp → Prop) (E : XK), Room k (A.deeper (envOfC x (C8.fnScope st) s.heap.objs.size f cdv)) → R vs H W →
      ∃ t, PSs (cxOf C8.CX0 P w K mg base N x (C8.fnScope st) f cdv A outer s H E).nox (C8.fnBody st) t ∧ RtW t (start N vs) H W) : C8.Cal P w K mg base (k + 1) x (spW R) [] :=
  C8.cal0 F b .nil S (fun vs H Q E ⟨W, h, _⟩ => len vs H W (h H (Ex.refl H))) fun cdv A outer s H vs Q E hr ⟨W, h, k⟩ => by
    obtain ⟨t, h1, h2⟩ := hbody cdv A outer s H vs W E hr (h H (Ex.refl H))
    exact ⟨t, h1, h2.fin k⟩
theorem metF {m qual : Str} {C : Addr} {st : Stmt} {f : Addr} {fd : FuncData} {N ps : List Str} {k : Nat} {R : List V → Hp → V → Prop} (c : Cls K C) (me : Meth K C m f) (F : C8.Fun K m qual st f fd) (b : Binds K fd ps []) (S : FnScope N ps (C8.fnScope st)) (len : ∀ vs H v, R vs H v → vs.length = ps.length)
    (hbody : ∀ (cdv : Value) (A : Around) (outer : List Env) (s : Shared) (H : Hp) (vs : List V) (v : V) (E : XK), Room k (A.deeper (envOfC qual (C8.fnScope st) s.heap.objs.size f cdv)) → R vs H v →
      ∃ t, PSs (cxOf C8.CX0 P w K mg base N qual (C8.fnScope st) f cdv A outer s H E).nox (C8.fnBody st) t ∧ Rt t (start N vs) H v) : C8.Met P w K mg base (k + 1) C m (spF R) [] :=
  C8.met0 c me F b S (fun vs H Q E ⟨v, h, _⟩ => len vs H v (h H (Ex.refl H))) fun cdv A outer s H vs Q E hr ⟨v, h, k⟩ => by
    obtain ⟨t, h1, h2⟩ := hbody cdv A outer s H vs v E hr (h H (Ex.refl H))
    exact ⟨t, h1, h2.fin k⟩
theorem metW {m qual : Str} {C : Addr} {st : Stmt} {f : Addr} {fd : FuncData} {N ps : List Str} {k : Nat} {R : List V → Hp → (V → Hp → Prop) → Prop} (c : Cls K C) (me : Meth K C m f) (F : C8.Fun K m qual st f fd) (b : Binds K fd ps []) (S : FnScope N ps (C8.fnScope st)) (len : ∀ vs H v, R vs H v → vs.length = ps.length)
    (hbody : ∀ (cdv : Value) (A : Around) (outer : List Env) (s : Shared) (H : Hp) (vs : List V) (W : V → Hp → Prop) (E : XK), Room k (A.deeper (envOfC qual (C8.fnScope st) s.heap.objs.size f cdv)) → R vs H W →
      ∃ t, PSs (cxOf C8.CX0 P w K mg base N qual (C8.fnScope st) f cdv A outer s H E).nox (C8.fnBody st) t ∧ RtW t (start N vs) H W) : C8.Met P w K mg base (k + 1) C m (spW R) [] :=
  C8.met0 c me F b S (fun vs H Q E ⟨W, h, _⟩ => len vs H W (h H (Ex.refl H))) fun cdv A outer s H vs Q E hr ⟨W, h, k⟩ => by
    obtain ⟨t, h1, h2⟩ := hbody cdv A outer s H vs W E hr (h H (Ex.refl H))
    exact ⟨t, h1, h2.fin k⟩
end
end Tk
namespace Tk
open PySem PySem.Spec PyProof.Rows L2 Evl
/-! del xs[:k], 0 ≤ k -/
def cutSel (c : Int) (i : Nat) : Bool := if (1 : Int) > 0 then (0 : Int) ≤ i && (i : Int) < c && ((i : Int) - 0) % 1 == 0 else c < i && (i : Int) ≤ 0 && ((0 : Int) - i) % (-1) == 0
theorem cutSel_eq (c i : Nat) : cutSel (c : Int) i = decide (i < c) := by
  unfold cutSel
  rw [if_pos (by decide)]
  have h1 : decide ((0 : Int) ≤ (i : Int)) = true := decide_eq_true (by omega)
  have h2 : (((i : Int) - 0) % 1 == 0) = true := by
    rw [Int.emod_one]
    rfl
  rw [h1, h2, Bool.true_and, Bool.and_true]
  congr 1
  exact propext (by omega)
theorem cut_from : ∀ (l : List Value) (c j : Nat), (l.zipIdx j).filterMap (fun p => if cutSel (c : Int) p.2 = true then none else some p.1) = l.drop (c - j)
  | [], c, j => by simp
  | x :: l, c, j => by
    rw [List.zipIdx_cons, List.filterMap_cons]
    have ih := cut_from l c (j + 1)
    simp only [cutSel_eq, decide_eq_true_eq] at ih ⊢
    by_cases h : j < c
    · rw [if_pos h]
      rw [ih, show c - j = (c - (j + 1)) + 1 by omega, List.drop_succ_cons]
    · rw [if_neg h]
      rw [ih, show c - (j + 1) = 0 by omega, show c - j = 0 by omega]
      rfl
theorem cut_all (l : List Value) (c : Nat) : (l.zipIdx.filterMap fun p => if cutSel (c : Int) p.2 = true then none else some p.1) = l.drop c := cut_from l c 0
section
variable {prog : Program} {w : World} {A : Around} {E : Value → Shared → Prop} {s : Shared}
theorem bounds_to {c n : Nat} (hc : c ≤ n) : sliceBounds none (some (c : Int)) none n = ((0 : Int), (c : Int), 1) := by
  simp only [sliceBounds, Option.getD_none]
  have b1 : ¬ ((c : Int) < 0) := by omega
  simp only [b1, if_false, show (1 : Int) > 0 by decide, if_true]
  congr 1
  congr 1
  omega
theorem cutGo {l sl : Addr} {its : List Value} {n : Nat} {vu : Value} {c : Nat} {Q : Unit → Shared → Prop} {os : Obj} (q1 : s.heap.get? sl = some os) (q3 : os.data = .fields #[.none, vu, .none]) (pu : IsPart vu (some (c : Int)))
    (e : s.heap.get? l = some { cls := .type "list", data := .seq its.toArray n }) (hc : c ≤ its.length) (hz : its.length ≤ sizeLine) (nstep : ¬ ((rawPart none == rawInt 0) = true))
    (h : ∀ f : Array Value → Array Value, f its.toArray = (its.drop c).toArray → Q () { s with heap := s.heap.update l (Obj.mapSeq f) }) {R : Value × Value × Value → Shared → Prop}
    (hR : R (rawPart none, rawPart (some (c : Int)), rawPart none) s) :
    wpAny (model prog w) A (if (rawPart none == rawInt 0) = true then (do rule "list.slice.step-zero"; let __r ← raiseErrorWords "ValueError" "slice step cannot be zero"; (fun _ : PUnit => do let first ← listPart (← field (.ref sl) 0); let last ← listPart (← field (.ref sl) 1); pure (first, last, rawPart none)) __r) else (do let first ← listPart (← field (.ref sl) 0); let last ← listPart (← field (.ref sl) 1); pure (first, last, rawPart none))) R E s := by
  rw [if_neg nstep]
  exact wpAny_bind (wpAny_field q1 q3 (x := .none) rfl (wpAny_bind (wpAny_listPart .none (wpAny_bind (wpAny_field q1 q3 (x := vu) rfl (wpAny_bind (wpAny_listPart pu (wpAny_pure hR))))))))
theorem cutEnd {l : Addr} {its : List Value} {n : Nat} {c : Nat} {Q : Unit → Shared → Prop} (e : s.heap.get? l = some { cls := .type "list", data := .seq its.toArray n }) (hc : c ≤ its.length) (hz : its.length ≤ sizeLine)
    (h : ∀ f : Array Value → Array Value, f its.toArray = (its.drop c).toArray → Q () { s with heap := s.heap.update l (Obj.mapSeq f) }) :
    wpAny (model prog w) A (do
      let old ← Builtin.List.listItems (.ref l)
      let x ← sliceIndices (rawPart none) (rawPart (some (c : Int))) (rawPart none) old.size
      rule "list.__delitem__.slice"
      Builtin.List.listUpdate (.ref l) fun xs => (xs.toList.zipIdx.filterMap fun p => if (if x.2.2 > 0 then x.1 ≤ p.2 && p.2 < x.2.1 && (p.2 - x.1) % x.2.2 == 0 else x.2.1 < p.2 && p.2 ≤ x.1 && (x.1 - p.2) % (-x.2.2) == 0 : Bool) = true then none else some p.1).toArray
      letGo (if (x.2.2 == 1) = true then (old.toList.zipIdx.filterMap fun p => if (if x.2.2 > 0 then x.1 ≤ p.2 && p.2 < x.2.1 && (p.2 - x.1) % x.2.2 == 0 else x.2.1 < p.2 && p.2 ≤ x.1 && (x.1 - p.2) % (-x.2.2) == 0 : Bool) = true then some p.1 else none).reverse
        else old.toList.zipIdx.filterMap fun p => if (if x.2.2 > 0 then x.1 ≤ p.2 && p.2 < x.2.1 && (p.2 - x.1) % x.2.2 == 0 else x.2.1 < p.2 && p.2 ≤ x.1 && (x.1 - p.2) % (-x.2.2) == 0 : Bool) = true then some p.1 else none)
      ret .none) (fun fin s' => ∃ v, fin = PySem.Fin.done (Flow.ret v) ∧ Q () s') E s := by
  unfold Builtin.List.listItems
  refine wpAny_bind (wpAny_bind (wpAny_seqItems e rfl (wpAny_pure ?_)))
  refine wpAny_bind (wpAny_of_eq ((sliceIndices_raw none (some (c : Int)) none its.toArray.size (by simp)).trans (congrArg (pure : Int × Int × Int → Sem (Int × Int × Int)) (bounds_to (by rw [List.size_toArray]; exact hc)))) ?_)
  refine wpAny_bind (wpAny_rule ?_)
  dsimp only
  have key : ((its.zipIdx.filterMap fun p => if (if (1 : Int) > 0 then (0 : Int) ≤ p.2 && (p.2 : Int) < (c : Int) && ((p.2 : Int) - 0) % 1 == 0 else (c : Int) < p.2 && (p.2 : Int) ≤ 0 && ((0 : Int) - p.2) % -1 == 0 : Bool) = true then none else some p.1).toArray) = (its.drop c).toArray := congrArg List.toArray (cut_all its c)
  refine wpAny_bind (m := updateSeq l _) (wpAny_updateSeq (hz := by rw [List.size_toArray]; exact hz) (_hz' := ?hz2) e rfl ?_)
  case hz2 =>
    refine Nat.le_trans (Nat.le_of_eq (congrArg Array.size key)) ?_
    rw [List.size_toArray, List.length_drop]
    omega
  refine wpAny_bind (wpAny_letGo ?_)
  exact wpAny_pure ⟨.none, rfl, h _ key⟩
theorem delItem_to {l sl : Addr} {its : List Value} {n : Nat} {vu : Value} {c : Nat} {Q : Unit → Shared → Prop} (e : s.heap.get? l = some { cls := .type "list", data := .seq its.toArray n }) (hs : s.heap.IsSliceOf sl .none vu .none) (pu : IsPart vu (some (c : Int))) (hc : c ≤ its.length) (hz : its.length ≤ sizeLine)
    (h : ∀ f : Array Value → Array Value, f its.toArray = (its.drop c).toArray → Q () { s with heap := s.heap.update l (Obj.mapSeq f) }) : wpAny (model prog w) A (delItem (.ref l) (.ref sl)) Q E s := by
  obtain ⟨os, q1, q2, q3⟩ := id hs
  have tS : s.TypeIs (.ref sl) "slice" := ⟨os, q1, q2⟩
  have tL : s.TypeIs (.ref l) "list" := ⟨_, e, rfl⟩
  refine wpAny_delItem_slot (T := "list") tL (by decide) F.slot_list_delitem (wpAny_call_entry F.slot_list_delitem tL F.entry_list_delitem ?_ (F.args_list_delitem_2 _ _))
  have nstep : ¬ ((rawPart none == rawInt 0) = true) := Bool.false_ne_true
  show wpAny _ _ (Builtin.List.listSubscript? (.ref sl) >>= _) _ _ s
  unfold Builtin.List.listSubscript?
  refine wpAny_bind (wpAny_bind (wpAny_specialOf tS slice_no_index (by simp only [Option.isNone_none, if_true]; refine wpAny_pure ?_; show wpAny _ _ (typeOf (.ref sl) >>= _) _ _ s; refine wpAny_bind (wpAny_typeOf tS ?_); rw [if_neg (by decide), listSliceParts_eq]; refine wpAny_bind (wpAny_bind (wpAny_field q1 q3 (x := .none) rfl (wpAny_bind (wpAny_listPart .none ?_)))); refine cutGo q1 q3 pu e hc hz nstep h ?_; exact cutEnd e hc hz h)))
end
section
variable {X : Cx}
def tDelTo (to te : TE) : TS := fun D σ H => to σ H fun x H1 => tPart te σ H1 fun o H2 => ∃ (l : Addr) (xs : List V) (c : Nat), x = .ref l ∧ o = some (c : Int) ∧ H2 l = some (.lst xs) ∧ c ≤ xs.length ∧ D.nx σ (upd H2 l (.lst (xs.drop c)))
theorem ps_delTo {o e : Expr} {to te : TE} {tpos p2 pos : Pos} (ho : PE X o to) (he : PE X e te) : PS X (.Delete [.Subscript o (.Slice none (some e) none p2) tpos] pos) (tDelTo to te) := by
  refine ⟨fun pins s σ H D I h => ?_⟩
  refine wpAny_Delete (wpAny_deleteEach_cons (wpAny_delete_Subscript (thn (ho.run pins s σ H _ I h) fun u s1 ⟨x, H1, I1, rx, q1⟩ => ?_)))
  refine wpAny_Slice ?_
  rw [evalPart_none]
  refine wpAny_pure (thn ((po_some he).run pins s1 σ H1 _ I1 q1) fun vu s2 ⟨o, H2, I2, pu, l, xs, c, ex, eo, hl, hc, q2⟩ => wpAny_pure ?_)
  subst ex eo
  cases (show u = Value.ref l from rx)
  have I3 : Inv X pins σ H2 { s2 with heap := s2.heap.push { cls := .type "slice", data := .fields #[.none, vu, .none] } } := I2.kept (t' := s2.toks) fun b ob q => Heap.get?_push_of_some _ q
  obtain ⟨z, its, n, r, len, e3⟩ := I3.lstM hl
  refine delItem_to e3 (Heap.IsSliceOf.new ..) pu (by omega) (by omega) fun f hf => wpAny_deleteEach_nil ⟨σ, _, I3.lset (t' := s2.toks) hl e3 hf (r.drop c) ?_, q2⟩
  rw [List.length_drop]
  omega
end
end Tk
namespace Tk
open PySem PySem.Spec PyProof.Rows L2 Evl
section
variable {σ σ' σ'' : L2.St} {H H' : Hp} {v x y z : V} {te ta tb : TE} {t u tw tz : TS} {c c2 : TT} {b : Bool} {W : V → Hp → Prop} {K : PySem.W.Frag} {r : R2} {a C dx : Addr} {fs : List (Str × V)} {f m : Str}
theorem ev_fld (ha : Ev ta σ H (.ref a)) (hx : H a = some (.ins C dx fs)) (hc : Cls K C) (hn : NoAttr K C f) (hl : fs.lookup f = some v) : Ev (tFld K ta f) σ H v := fun H1 e Q q =>
  ha H1 e _ fun H2 e2 => ⟨a, C, dx, fs, v, rfl, (e.trans e2) a _ hx, hc, hn, hl, q H2 e2⟩
theorem ev_methF {R : List V → Hp → V → Prop} {tA : TA} {vs : List V} {E : XK} (ha : Ev ta σ H (.ref a)) (hx : H a = some (.ins C dx fs)) (hm : fs.lookup m = none) (h : EvA tA σ H vs) (hR : ∀ H1, Ex H H1 → R (.ref a :: vs) H1 v) : Ev (tMeth C m (spF R) [] E ta tA) σ H v := fun H1 e Q q =>
  ha H1 e _ fun H2 e2 => ⟨a, dx, fs, rfl, (e.trans e2) a _ hx, hm, h H2 (e.trans e2) _ fun H3 e3 => by
    rw [List.append_nil]
    exact ⟨v, fun H4 e4 => hR H4 (((e.trans e2).trans e3).trans e4), fun H4 e4 => q H4 ((e2.trans e3).trans e4)⟩⟩
theorem evw_methW {R : List V → Hp → (V → Hp → Prop) → Prop} {tA : TA} {vs : List V} {E : XK} (ha : Ev ta σ H (.ref a)) (hx : H a = some (.ins C dx fs)) (hm : fs.lookup m = none) (h : EvA tA σ H vs) (hR : ∀ H1, Ex H H1 → R (.ref a :: vs) H1 W) : EvW (tMeth C m (spW R) [] E ta tA) σ H W := fun H1 e Q q =>
  ha H1 e _ fun H2 e2 => ⟨a, dx, fs, rfl, (e.trans e2) a _ hx, hm, h H2 (e.trans e2) _ fun H3 e3 => by
    rw [List.append_nil]
    exact ⟨W, fun H4 e4 => hR H4 (((e.trans e2).trans e3).trans e4), fun v H4 e4 w => q v H4 ((e2.trans e3).trans e4) w⟩⟩
/-- what an __init__ promises: of these arguments, at a new instance -/
def spI (C : Addr) (Dm : List V → Prop) (J : List V → Addr → Addr → Hp → Prop) : Sp := fun vs H Q _ => ∃ (x dx : Addr) (as : List V), vs = .ref x :: as ∧ H x = some (.ins C dx []) ∧ Dm as ∧ ∀ H2, (∀ b o, b ≠ x → H b = some o → H2 b = some o) → J as x dx H2 → Q .non H2
theorem evw_make {Dm : List V → Prop} {J : List V → Addr → Addr → Hp → Prop} {tA : TA} {vs : List V} {E : XK} (h : EvA tA σ H vs) (hd : Dm vs) : EvW (tMake C (spI C Dm J) [] E tA) σ H (fun v H2 => ∃ x dx, v = .ref x ∧ J vs x dx H2) := fun H1 e Q q =>
  h H1 e _ fun H2 e2 => fun x dx nx nd ne => by
    rw [List.append_nil]
    refine ⟨x, dx, vs, rfl, upd_same, hd, fun H3 k w => ⟨rfl, q _ H3 (e2.trans fun b o hb => ?_) ⟨x, dx, rfl, w⟩⟩⟩
    have n1 : b ≠ x := ne_of_none hb nx
    refine k b o n1 ?_
    rw [upd_ne n1, upd_ne (ne_of_none hb nd)]
    exact hb
/-! blocks by what holds of the slots behind -/
def NxP (t : TS) (σ : L2.St) (H : Hp) (P : L2.St → Prop) : Prop := ∀ H1, Ex H H1 → ∀ D : Ends, (∀ σ' H2, Ex H1 H2 → P σ' → D.nx σ' H2) → t D σ H1
theorem nxp_of {P : L2.St → Prop} (h : Nx t σ H σ') (p : P σ') : NxP t σ H P := fun H1 e D q => h H1 e D fun H2 e2 => q σ' H2 e2 p
theorem NxP.imp {P P' : L2.St → Prop} (h : NxP t σ H P) (k : ∀ s, P s → P' s) : NxP t σ H P' := fun H1 e D q => h H1 e D fun s H2 e2 p => q s H2 e2 (k s p)
theorem rt_seqP {P : L2.St → Prop} (h : NxP t σ H P) (k : ∀ σ', P σ' → Rt u σ' H v) : Rt (tSeq t u) σ H v := fun H1 e D q => h H1 e { D with nx := u D } fun σ' H2 e2 p => k σ' p H2 (e.trans e2) D fun H3 e3 => q H3 (e2.trans e3)
theorem rtw_seqP {P : L2.St → Prop} (h : NxP t σ H P) (k : ∀ σ', P σ' → RtW u σ' H W) : RtW (tSeq t u) σ H W := fun H1 e D q => h H1 e { D with nx := u D } fun σ' H2 e2 p => k σ' p H2 (e.trans e2) D fun v H3 e3 w => q v H3 (e2.trans e3) w
theorem nxp_seqP {P P' : L2.St → Prop} (h : NxP t σ H P) (k : ∀ σ', P σ' → NxP u σ' H P') : NxP (tSeq t u) σ H P' := fun H1 e D q => h H1 e { D with nx := u D } fun σ' H2 e2 p => k σ' p H2 (e.trans e2) D fun s H3 e3 w => q s H3 (e2.trans e3) w
theorem nxp_if {P : L2.St → Prop} (h : EvT c σ H b) (h1 : b = true → NxP t σ H P) (h2 : b = false → NxP u σ H P) : NxP (tIfS c t u) σ H P := fun H1 e D q => h H1 e _ fun H2 e2 => by
  cases b with
  | true =>
    show t D σ H2
    exact h1 rfl H2 (e.trans e2) D fun s H3 e3 => q s H3 (e2.trans e3)
  | false =>
    show u D σ H2
    exact h2 rfl H2 (e.trans e2) D fun s H3 e3 => q s H3 (e2.trans e3)
theorem nxp_while {P : L2.St → Prop} (I : L2.St → Prop) (μ : L2.St → Nat) (h0 : I σ) (hs : ∀ s, I s → ∃ b, EvT c s H b ∧ (b = true → NxP u s H fun s' => I s' ∧ μ s' < μ s) ∧ (b = false → P s)) : NxP (tWhile c u) σ H P := fun H1 e D q =>
  ⟨fun k s H2 => k = μ s ∧ I s ∧ Ex H1 H2, ⟨_, rfl, h0, Ex.refl _⟩, fun k s H2 ⟨hk, hI, e2⟩ => by
    subst hk
    obtain ⟨b, hb, h1, h2⟩ := hs s hI
    refine hb H2 (e.trans e2) _ fun H3 e3 => ?_
    cases b with
    | true =>
      refine ⟨fun s' H' => (I s' ∧ μ s' < μ s) ∧ Ex H1 H', fun s' H' p => ⟨μ s', p.1.2, rfl, p.1.1, p.2⟩, ?_⟩
      exact h1 rfl H3 ((e.trans e2).trans e3) _ fun s' H4 e4 p => ⟨p, (e2.trans e3).trans e4⟩
    | false => exact q s H3 (e2.trans e3) (h2 rfl)⟩
/-! lists of pairs of numbers, tracked -/
def Prs (H : Hp) (ps : List Addr) (vs : List (Int × Int)) : Prop := Paired (fun (p : Addr) (q : Int × Int) => H p = some (.tup [.int q.1, .int q.2])) ps vs
def PairsT (H : Hp) (l : Addr) (vs : List (Int × Int)) : Prop := ∃ ps : List Addr, H l = some (.lst (ps.map V.ref)) ∧ Prs H ps vs
theorem Prs.mono {ps : List Addr} {vs : List (Int × Int)} (e : Ex H H') (h : Prs H ps vs) : Prs H' ps vs := by
  induction h with
  | nil => exact .nil
  | cons h1 _ ih => exact .cons (e _ _ h1) ih
theorem Prs.len {ps : List Addr} {vs : List (Int × Int)} (h : Prs H ps vs) : ps.length = vs.length := by
  induction h with
  | nil => rfl
  | cons _ _ ih => rw [List.length_cons, List.length_cons, ih]
theorem Prs.at {ps : List Addr} {vs : List (Int × Int)} (h : Prs H ps vs) {i : Nat} {q : Int × Int} (hq : vs[i]? = some q) : ∃ p, ps[i]? = some p ∧ H p = some (.tup [.int q.1, .int q.2]) := by
  induction h generalizing i with
  | nil => simp at hq
  | @cons p q' ps vs h1 _ ih =>
    cases i with
    | zero =>
      rw [List.getElem?_cons_zero] at hq
      cases hq
      exact ⟨p, rfl, h1⟩
    | succ i =>
      rw [List.getElem?_cons_succ] at hq
      obtain ⟨p', e1, e2⟩ := ih hq
      exact ⟨p', by rw [List.getElem?_cons_succ]; exact e1, e2⟩
theorem Prs.snoc {ps : List Addr} {vs : List (Int × Int)} {p : Addr} {q : Int × Int} (h : Prs H ps vs) (hp : H p = some (.tup [.int q.1, .int q.2])) : Prs H (ps ++ [p]) (vs ++ [q]) := by
  induction h with
  | nil => exact .cons hp .nil
  | cons h1 _ ih => exact .cons h1 ih
theorem Prs.drop {ps : List Addr} {vs : List (Int × Int)} (k : Nat) (h : Prs H ps vs) : Prs H (ps.drop k) (vs.drop k) := by
  induction h generalizing k with
  | nil =>
    rw [List.drop_nil, List.drop_nil]
    exact .nil
  | cons h1 h2 ih =>
    cases k with
    | zero => exact .cons h1 h2
    | succ k => exact ih k
theorem Prs.take {ps : List Addr} {vs : List (Int × Int)} (k : Nat) (h : Prs H ps vs) : Prs H (ps.take k) (vs.take k) := by
  induction h generalizing k with
  | nil =>
    rw [List.take_nil, List.take_nil]
    exact .nil
  | cons h1 h2 ih =>
    cases k with
    | zero => exact .nil
    | succ k => exact .cons h1 (ih k)
/-- a change elsewhere: at an object that is no tuple -/
theorem Prs.upd {ps : List Addr} {vs : List (Int × Int)} {l : Addr} {o : HO} (h : Prs H ps vs) (hl : ∀ xs, H l ≠ some (.tup xs)) : Prs (L2.upd H l o) ps vs := by
  induction h with
  | nil => exact .nil
  | cons h1 _ ih => exact .cons (by rw [upd_ne (fun z => hl _ (by rw [← z]; exact h1))]; exact h1) ih
theorem PairsT.mono {l : Addr} {vs : List (Int × Int)} (e : Ex H H') (h : PairsT H l vs) : PairsT H' l vs := by
  obtain ⟨ps, h1, h2⟩ := h
  exact ⟨ps, e _ _ h1, h2.mono e⟩
theorem PairsT.lst {l : Addr} {vs : List (Int × Int)} (h : PairsT H l vs) : ∃ xs : List V, SqL K H l xs ∧ xs.length = vs.length := by
  obtain ⟨ps, h1, h2⟩ := h
  exact ⟨_, sq_of h1, by rw [List.length_map]; exact h2.len⟩
theorem ev_lenP {l : Addr} {vs : List (Int × Int)} (ha : Ev ta σ H (.ref l)) (h : PairsT H l vs) : Ev (tCB (fun xs H Q => ∃ p ys, xs = [.ref p] ∧ (SqL K H p ys ∨ SqT K H p ys) ∧ Q (.int ys.length) H) (tCons ta tNil)) σ H (.int (vs.length : Int)) := by
  obtain ⟨xs, h1, h2⟩ := h.lst (K := K)
  rw [← h2]
  exact ev_lenL ha h1
/-- rows[i] -/
theorem ev_pair {l : Addr} {vs : List (Int × Int)} {i : Int} {q : Int × Int} (h : PairsT H l vs) (ha : Ev ta σ H (.ref l)) (hb : Ev tb σ H (.int i)) (h0 : 0 ≤ i) (hq : vs[i.toNat]? = some q) : ∃ p, H p = some (.tup [.int q.1, .int q.2]) ∧ Ev (tOp (rIxL K) ta tb) σ H (.ref p) := by
  obtain ⟨ps, h1, h2⟩ := h
  obtain ⟨p, e1, e2⟩ := h2.at hq
  refine ⟨p, e2, ev_ixL ha hb (sq_of h1) ?_⟩
  obtain ⟨j, rfl⟩ : ∃ j : Nat, i = (j : Int) := ⟨i.toNat, by omega⟩
  refine atI_nat ?_
  rw [List.getElem?_map]
  rw [Int.toNat_natCast] at e1
  rw [e1]
  rfl
theorem ev_pair0 {l : Addr} {vs : List (Int × Int)} {i : Int} {q : Int × Int} (ha : Ev ta σ H (.ref l)) (hb : Ev tb σ H (.int i)) (h : PairsT H l vs) (h0 : 0 ≤ i) (hq : vs[i.toNat]? = some q) : Ev (tOp (rIxT K) (tOp (rIxL K) ta tb) (tC (.int 0))) σ H (.int q.1) := by
  obtain ⟨p, h1, h2⟩ := ev_pair (K := K) h ha hb h0 hq
  exact ev_ixT h2 ev_c (st_of h1) rfl
theorem ev_pair1 {l : Addr} {vs : List (Int × Int)} {i : Int} {q : Int × Int} (ha : Ev ta σ H (.ref l)) (hb : Ev tb σ H (.int i)) (h : PairsT H l vs) (h0 : 0 ≤ i) (hq : vs[i.toNat]? = some q) : Ev (tOp (rIxT K) (tOp (rIxL K) ta tb) (tC (.int 1))) σ H (.int q.2) := by
  obtain ⟨p, h1, h2⟩ := ev_pair (K := K) h ha hb h0 hq
  exact ev_ixT h2 ev_c (st_of h1) rfl
/-! statements that change objects, told at the heap ahead -/
variable {D : Ends}
theorem Nx.go (h : Nx t σ H σ') (k : ∀ H2, Ex H H2 → u D σ' H2) : tSeq t u D σ H := h H (Ex.refl H) { D with nx := u D } k
theorem Rt.go (h : Rt t σ H v) (k : ∀ H2, Ex H H2 → D.rt v H2) : t D σ H := h H (Ex.refl H) D k
theorem s_fldst {y : V} {tv : TE} (hv : Ev tv σ H y) (ha : Ev ta σ H (.ref a)) (hx : H a = some (.ins C dx fs)) (hc : Cls K C) (hn : NoAttr K C f) (hl : fs.length < 1000) (k : ∀ H1, Ex H H1 → D.nx σ (upd H1 a (.ins C dx (putF f y fs)))) : sFld K ta tv f D σ H :=
  hv H (Ex.refl H) _ fun H1 e1 => ha H1 e1 _ fun H2 e2 => ⟨a, C, dx, fs, rfl, (e1.trans e2) _ _ hx, hc, hn, hl, k H2 (e1.trans e2)⟩
theorem s_fldaugst {i j : Int} {tv : TE} (ha : Ev ta σ H (.ref a)) (hx : H a = some (.ins C dx fs)) (hc : Cls K C) (hn : NoAttr K C f) (hl : fs.lookup f = some (.int i)) (hv : Ev tv σ H (.int j)) (hz : fs.length < 1000) (k : ∀ H1, Ex H H1 → D.nx σ (upd H1 a (.ins C dx (putF f (.int (i + j)) fs)))) : sFldAug K ta tv rAdd f D σ H :=
  ha H (Ex.refl H) _ fun H1 e1 => ⟨a, C, dx, fs, .int i, rfl, e1 _ _ hx, hc, hn, hl, hv H1 e1 _ fun H2 e2 => ⟨i, j, rfl, rfl, dx, fs, (e1.trans e2) _ _ hx, hz, k H2 (e1.trans e2)⟩⟩
/-! a loop whose turn goes on with a new state, or leaves -/
def runN {α : Type} (turn : Nat → α → Option α) : Nat → Nat → α → Option α
  | 0, _, st => some st
  | m + 1, i, st => match turn i st with
    | none => none
    | some st' => runN turn m (i + 1) st'
theorem runN_steps {α : Type} (turn : Nat → α → Option α) : ∀ (m i : Nat) (st : α),
    (∃ f : Nat → α, f 0 = st ∧ (∀ j, j < m → turn (i + j) (f j) = some (f (j + 1))) ∧ runN turn m i st = some (f m)) ∨
    (∃ (k : Nat) (f : Nat → α), k < m ∧ f 0 = st ∧ (∀ j, j < k → turn (i + j) (f j) = some (f (j + 1))) ∧ turn (i + k) (f k) = none ∧ runN turn m i st = none)
  | 0, i, st => .inl ⟨fun _ => st, rfl, fun _ h => absurd h (Nat.not_lt_zero _), rfl⟩
  | m + 1, i, st => by
    cases e : turn i st with
    | none =>
      refine .inr ⟨0, fun _ => st, Nat.succ_pos _, rfl, fun _ h => absurd h (Nat.not_lt_zero _), e, ?_⟩
      rw [runN, e]
    | some st' =>
      have er : runN turn (m + 1) i st = runN turn m (i + 1) st' := by rw [runN, e]
      have sh : ∀ j, i + 1 + j = i + (j + 1) := fun j => by omega
      rcases runN_steps turn m (i + 1) st' with ⟨f, h0, h1, h2⟩ | ⟨k, f, hk, h0, h1, h2, h3⟩
      · refine .inl ⟨fun j => match j with | 0 => st | j + 1 => f j, rfl, fun j hj => ?_, er.trans h2⟩
        cases j with
        | zero =>
          show turn i st = some (f 0)
          rw [e, h0]
        | succ j =>
          rw [← sh]
          exact h1 j (Nat.lt_of_succ_lt_succ hj)
      · refine .inr ⟨k + 1, fun j => match j with | 0 => st | j + 1 => f j, Nat.succ_lt_succ hk, rfl, fun j hj => ?_, by rw [← sh]; exact h2, er.trans h3⟩
        cases j with
        | zero =>
          show turn i st = some (f 0)
          rw [e, h0]
        | succ j =>
          rw [← sh]
          exact h1 j (Nat.lt_of_succ_lt_succ hj)
theorem rt_for_opt {α : Type} {wi : TI} {items : Nat → V} {n : Nat} {g : TG} {v0 : V} {st0 : α} (turn : Nat → α → Option α) (S : α → Nat → L2.St) (Iv : Nat → α → Prop) (i0 : Iv 0 st0) (hI : EvI wi (S st0 0) H items n)
    (hs : ∀ i st st', i < n → Iv i st → turn i st = some st' → GNx g u (items i) (S st i) H (S st' (i + 1)) ∧ Iv (i + 1) st') (hn : ∀ i st, i < n → Iv i st → turn i st = none → GRtW g u (items i) (S st i) H (fun v' _ => v' = v0))
    (hr : ∀ st, Iv n st → runN turn n 0 st0 = some st → Rt tz (S st n) H v) (h0 : runN turn n 0 st0 = none → v = v0) : Rt (tSeq (tFor wi g u) tz) (S st0 0) H v := by
  rcases runN_steps turn n 0 st0 with ⟨f, f0, f1, f2⟩ | ⟨k, f, hk, f0, f1, f2, f3⟩
  · have iv : ∀ j, j ≤ n → Iv j (f j) := fun j => by
      induction j with
      | zero => intro _; rw [f0]; exact i0
      | succ j ih => exact fun hj => (hs j (f j) (f (j + 1)) hj (ih (Nat.le_of_succ_le hj)) (by have := f1 j hj; rw [Nat.zero_add] at this; exact this)).2
    have hI' : EvI wi (S (f 0) 0) H items n := by rw [f0]; exact hI
    have z : Nx (tFor wi g u) (S (f 0) 0) H (S (f n) n) := nx_for (fun j => S (f j) j) hI' fun j hj => (hs j _ _ hj (iv j (Nat.le_of_lt hj)) (by have := f1 j hj; rw [Nat.zero_add] at this; exact this)).1
    rw [f0] at z
    exact rt_seq z (hr _ (iv n (Nat.le_refl n)) f2)
  · have iv : ∀ j, j ≤ k → Iv j (f j) := fun j => by
      induction j with
      | zero => intro _; rw [f0]; exact i0
      | succ j ih => exact fun hj => (hs j (f j) (f (j + 1)) (Nat.lt_trans hj hk) (ih (Nat.le_of_succ_le hj)) (by have := f1 j hj; rw [Nat.zero_add] at this; exact this)).2
    have hI' : EvI wi (S (f 0) 0) H items n := by rw [f0]; exact hI
    have z : Rt (tFor wi g u) (S (f 0) 0) H v0 := rt_for k (fun j => S (f j) j) hI' hk (fun j hj => (hs j _ _ (Nat.lt_trans hj hk) (iv j (Nat.le_of_lt hj)) (by have := f1 j hj; rw [Nat.zero_add] at this; exact this)).1) (hn k _ hk (iv k (Nat.le_refl k)) (by rw [Nat.zero_add] at f2; exact f2))
    rw [f0] at z
    rw [h0 f3]
    exact rt_now z
theorem Rt.at (h : Rt t σ' H v) (e : σ = σ') : Rt t σ H v := e ▸ h
theorem getD_some {vs : List (Int × Int)} {i : Nat} (h : i < vs.length) : vs[i]? = some (vs.getD i (0, 0)) := by
  rw [List.getD_eq_getElem?_getD, List.getElem?_eq_getElem h]
  rfl
end
section
variable {P : Program} {w : World} {K : PySem.W.Frag} {mg : Str → Option Value} {base : Heap} {C : Addr} {x m : Str} {sp : Sp} {dvs : List V} {j k : Nat}
theorem metMono (h : j ≤ k) (c : C8.Met P w K mg base j C m sp dvs) : C8.Met P w K mg base k C m sp dvs := by
  obtain ⟨f, fd, ps, ds, h1, h2, F, h3, h4⟩ := c.ex
  exact ⟨f, fd, ps, ds, h1, h2, F.mono h, h3, h4⟩
theorem calMono (h : j ≤ k) (c : C8.Cal P w K mg base j x sp dvs) : C8.Cal P w K mg base k x sp dvs := by
  obtain ⟨f, fd, ps, ds, F, h1, h2, h3, h4⟩ := c.ex
  exact ⟨f, fd, ps, ds, F.mono h, h1, h2, h3, h4⟩
end
theorem rv_isB {a b : Bool} {H : Hp} : RV rIsB (.bl a) (.bl b) H (.bl (decide (a = b))) := fun H1 _ _ q => ⟨a, b, rfl, rfl, q H1 (Ex.refl H1)⟩
end Tk
namespace Tk
open PySem PySem.Spec PyProof.Rows L2 Evl
/-! a class made in a try: what leaves its __init__ is the try's -/
def tMakeS (C : Addr) (sp : Sp) (E : L2.St → XK) (t : TA) : TE := fun σ H Q => t σ H fun vs H1 => ∀ x dx, H1 x = none → H1 dx = none → dx ≠ x → sp (.ref x :: vs) (upd (upd H1 dx (.own x)) x (.ins C dx [])) (fun v H2 => v = .non ∧ Q (.ref x) H2) (E σ)
section
variable {X : Cx} {CX : CXT} {k : Nat} {f C : Addr} {fd : FuncData} {ps : List Str} {sp : Sp} {E : L2.St → XK} {x : Str} {p pos : Pos} {e : Expr} {es : List Expr} {t : TA}
theorem goMakeS {pn : List (Addr × Obj)} {σ : L2.St} {H : Hp} {s : Shared} {Q : VK} {us : List Value} {vs : List V} (M : Mk X.K C f) (F : FnOk X.prog X.w X.K X.mg X.base CX k f fd ps sp) (hr : Room (k + 1) X.A) (hb : Binds X.K fd ps []) (hx : PassesAt CX X σ (E σ)) (I : Inv X pn σ H s) (r : Vals vs us)
    (h : ∀ x dx, H x = none → H dx = none → dx ≠ x → sp (.ref x :: vs) (upd (upd H dx (.own x)) x (.ins C dx [])) (fun v H2 => v = .non ∧ Q (.ref x) H2) (E σ)) : wpAny (model X.prog X.w) X.A (call (.ref C) us) (EP X pn σ Q) X.xe s := by
  have free1 : H (s.heap.objs.size + 1) = none := I.hok.fresh (Nat.le_succ _)
  have free0 : H s.heap.objs.size = none := I.hok.fresh (Nat.le_refl _)
  have made := h _ _ free1 free0 (Nat.ne_of_lt (Nat.lt_succ_self _))
  have J := Inv.made (C := C) I
  have vals : Vals (V.ref (s.heap.objs.size + 1) :: vs) (Value.ref (s.heap.objs.size + 1) :: us) := .cons rfl r
  have many : (Value.ref (s.heap.objs.size + 1) :: us).length = ps.length := vals.length.symm.trans (F.len _ _ _ _ made)
  have bound := hb _ (Value.ref (s.heap.objs.size + 1) :: us) J.kIn (by rw [List.append_nil]; exact many)
  rw [List.append_nil] at bound
  refine wpAny_call (make_map (f := f) I.kIn M.makes M.init (beq_iff_eq.mp M.fn) (codeAny_mono (F.run _ X.stack _ _ _ _ _ _ (E σ) (hr.make C us []) (J.env0.make C us []) bound vals made) fun res s' got => ?_))
  match res, got with
  | .error err, got => exact hx pn _ _ err s' J got
  | .ok (.ret u), got =>
    obtain ⟨v, H3, J3, rv, ev, q3⟩ := J.after got
    subst ev
    exact ⟨rv, ⟨V.ref (s.heap.objs.size + 1), H3, J3, rfl, q3⟩⟩
  | .ok .next, got => exact False.elim got
  | .ok .brk, got => exact False.elim got
  | .ok .cont, got => exact False.elim got
theorem pe_makeS (M : Mk X.K C f) (F : FnOk X.prog X.w X.K X.mg X.base CX k f fd ps sp) (hr : Room (k + 1) X.A) (hg : Gl X x) (hm : X.mg x = some (.ref C)) (hb : Binds X.K fd ps []) (hx : ∀ σ, PassesAt CX X σ (E σ)) (ha : PA X (e :: es) t)
    (hdb : (x == ("__debug__" : Str)) = false := by decide) (he : starEach (e :: es) X.env = (false, eval e X.env) :: starEach es X.env := by rfl) (hpl : (backTo pos (starEach es X.env)).any (·.1) = false := by rfl) : PE X (.Call (.Name x p) (e :: es) [] pos) (tMakeS C sp E t) :=
  ⟨fun pn s σ H Q I h => wpAny_Call_Name_kw (ld_glob I hg hm (PySem.W.callWith_K (h₀ := X.base) I.ok.mod.kin M.kp (thn (ha.run pos pn s σ H _ I h) fun us s1 ⟨vs, H1, I1, r, q⟩ => ⟨I1.kIn, goMakeS M F hr hb (hx σ) I1 r q⟩) he hpl) hdb)⟩
end
/-! a for by what holds of the slots -/
def GNxP (g : TG) (u : TS) (x : V) (σ : L2.St) (H : Hp) (P : L2.St → Prop) : Prop := ∀ H1, Ex H H1 → ∀ D : Ends, (∀ σ' H2, Ex H1 H2 → P σ' → D.nx σ' H2) → g x σ H1 fun σ2 H2 => u D σ2 H2
theorem gnxp_name {j : Nat} {u : TS} {x : V} {σ : L2.St} {H : Hp} {P : L2.St → Prop} (h : NxP u (σ.set j (some x)) H P) : GNxP (gName j) u x σ H P := fun H1 e D q => h H1 e D q
theorem nxp_for {wi : TI} {items : Nat → V} {n : Nat} {g : TG} {u : TS} {σ : L2.St} {H : Hp} (Iv : Nat → L2.St → Prop) (i0 : Iv 0 σ) (h : EvI wi σ H items n) (hs : ∀ i s, i < n → Iv i s → GNxP g u (items i) s H (Iv (i + 1))) : NxP (tFor wi g u) σ H (Iv n) := fun H1 e D q =>
  h H1 e _ fun J H2 e2 G => by
    refine ⟨fun i m s H3 => m = n - i ∧ i ≤ n ∧ Iv i s ∧ Ex H2 H3, ⟨n, by simp, Nat.zero_le _, i0, Ex.refl _⟩, ?_⟩
    rintro i m s H3 ⟨rfl, hi, hv, e3⟩
    by_cases hlt : i < n
    · refine .inr ⟨G.go i H3 e3 hlt, fun s' H' => Iv (i + 1) s' ∧ Ex H2 H', fun s' H' p => ⟨n - (i + 1), by omega, rfl, hlt, p.1, p.2⟩, fun x H' y => ?_⟩
      obtain ⟨rfl, rfl⟩ := G.yld i x H3 H' e3 hlt y
      exact hs i s hlt hv _ ((e.trans e2).trans e3) _ fun s' H4 e4 p => ⟨p, e3.trans e4⟩
    · obtain rfl : i = n := by omega
      exact .inl ⟨G.stop _ e3, q _ _ (e2.trans e3) hv⟩
theorem rv_notB {a b : Bool} {H : Hp} : RV rNotB (.bl a) (.bl b) H (.bl (!decide (a = b))) := fun H1 _ _ q => ⟨a, b, rfl, rfl, q H1 (Ex.refl H1)⟩
end Tk
namespace Tk
open PySem PySem.Spec PyProof.Rows L2 Evl
def top (i : Nat) : Stmt := PySem.Challenge.pw_turnstile_k02_bounds_made.main.body.getD i (.Pass ⟨0, 0, 0, 0⟩)
abbrev s_wall : Stmt := top 0
abbrev s_is_within : Stmt := top 5
theorem sc_is_within : FnScope ["value", "least", "largest"] ["value", "least", "largest"] (C8.fnScope s_is_within) := C8.fnScope_by (by decide +kernel)
abbrev s_Bound_room : Stmt := inClass (top 11) 0
theorem sc_Bound_room : FnScope ["self", "first", "last"] ["self", "first", "last"] (C8.fnScope s_Bound_room) := C8.fnScope_by (by decide +kernel)
abbrev s_Bound_meter : Stmt := inClass (top 11) 1
theorem sc_Bound_meter : FnScope ["self"] ["self"] (C8.fnScope s_Bound_meter) := C8.fnScope_by (by decide +kernel)
abbrev s_Jar_init : Stmt := inClass (top 12) 0
theorem sc_Jar_init : FnScope ["self", "size", "flow"] ["self", "size", "flow"] (C8.fnScope s_Jar_init) := C8.fnScope_by (by decide +kernel)
abbrev s_Jar_size : Stmt := inClass (top 12) 1
theorem sc_Jar_size : FnScope ["self"] ["self"] (C8.fnScope s_Jar_size) := C8.fnScope_by (by decide +kernel)
abbrev s_Jar_flow : Stmt := inClass (top 12) 2
theorem sc_Jar_flow : FnScope ["self"] ["self"] (C8.fnScope s_Jar_flow) := C8.fnScope_by (by decide +kernel)
abbrev s_Jar_room : Stmt := inClass (top 12) 3
theorem sc_Jar_room : FnScope ["self", "first", "last"] ["self", "first", "last"] (C8.fnScope s_Jar_room) := C8.fnScope_by (by decide +kernel)
abbrev s_Jar_meter : Stmt := inClass (top 12) 4
theorem sc_Jar_meter : FnScope ["self"] ["self"] (C8.fnScope s_Jar_meter) := C8.fnScope_by (by decide +kernel)
abbrev s_Window_init : Stmt := inClass (top 13) 0
theorem sc_Window_init : FnScope ["self", "most", "span"] ["self", "most", "span"] (C8.fnScope s_Window_init) := C8.fnScope_by (by decide +kernel)
abbrev s_Window_most : Stmt := inClass (top 13) 1
theorem sc_Window_most : FnScope ["self"] ["self"] (C8.fnScope s_Window_most) := C8.fnScope_by (by decide +kernel)
abbrev s_Window_span : Stmt := inClass (top 13) 2
theorem sc_Window_span : FnScope ["self"] ["self"] (C8.fnScope s_Window_span) := C8.fnScope_by (by decide +kernel)
abbrev s_Window_room : Stmt := inClass (top 13) 3
theorem sc_Window_room : FnScope ["self", "first", "last"] ["self", "first", "last"] (C8.fnScope s_Window_room) := C8.fnScope_by (by decide +kernel)
abbrev s_Window_meter : Stmt := inClass (top 13) 4
theorem sc_Window_meter : FnScope ["self"] ["self"] (C8.fnScope s_Window_meter) := C8.fnScope_by (by decide +kernel)
abbrev s_Lcell : Stmt := top 15
theorem sc_Lcell : FnScope ["_law_script", "_law_k", "_law_cell_here", "_law_more"] ["_law_script", "_law_k"] (C8.fnScope s_Lcell) := C8.fnScope_by (by decide +kernel)
abbrev s_Lnumber : Stmt := top 16
theorem sc_Lnumber : FnScope ["_law_cell_here", "_law_most", "_law_some"] ["_law_cell_here", "_law_most"] (C8.fnScope s_Lnumber) := C8.fnScope_by (by decide +kernel)
abbrev s_Lodd : Stmt := top 17
theorem sc_Lodd : FnScope ["_law_cell_here"] ["_law_cell_here"] (C8.fnScope s_Lodd) := C8.fnScope_by (by decide +kernel)
abbrev s_Lgood : Stmt := top 18
theorem sc_Lgood : FnScope ["_law_one", "_law_other", "_law_most", "_law_least", "_law_thing"] ["_law_one", "_law_other", "_law_most", "_law_least"] (C8.fnScope s_Lgood) := C8.fnScope_by (by decide +kernel)
abbrev s_Lbound_of : Stmt := top 19
theorem sc_Lbound_of : FnScope ["_law_way", "_law_one", "_law_other", "e", "_law_found"] ["_law_way", "_law_one", "_law_other"] (C8.fnScope s_Lbound_of) := C8.fnScope_by (by decide +kernel)
abbrev s_Lsame : Stmt := top 20
theorem sc_Lsame : FnScope ["_law_found", "_law_due"] ["_law_found", "_law_due"] (C8.fnScope s_Lsame) := C8.fnScope_by (by decide +kernel)
abbrev s_Lrooms : Stmt := top 21
theorem sc_Lrooms : FnScope ["_law_bound", "_law_way", "_law_one", "_law_other", "_law_cell_here", "_law_last", "_law_first", "_law_due"] ["_law_bound", "_law_way", "_law_one", "_law_other", "_law_cell_here"] (C8.fnScope s_Lrooms) := C8.fnScope_by (by decide +kernel)
abbrev s_law : Stmt := top 22
theorem sc_law : FnScope ["_law_script", "_law_k", "_law_cell_here", "_law_way", "_law_most", "_law_one", "_law_other", "_law_found"] ["_law_script"] (C8.fnScope s_law) := C8.fnScope_by (by decide +kernel)
/-- what the top has left of the built-ins -/
structure Blt (mg : Str → Option Value) : Prop where
  b_len : mg "len" = none
  b_range : mg "range" = none
  b_max : mg "max" = none
  b_int : mg "int" = none
  b_bool : mg "bool" = none
  b_isinstance : mg "isinstance" = none
/-! data compared -/
theorem dp_ints {K : PySem.W.Frag} {H : Hp} : ∀ ns : List Int, DpAll K H (ns.map V.int) (ns.map PyData.int)
  | [] => .nil
  | n :: ns => .cons (.int n) (dp_ints ns)
theorem lay_ints : ∀ ns : List Int, PyData.canLayAll0 (ns.map PyData.int) = true
  | [] => by simp only [List.map_nil, PyData.canLayAll0]
  | n :: ns => by simp only [List.map_cons, PyData.canLayAll0, PyData.canLay0, lay_ints ns, Bool.and_self]
theorem dep_ints : ∀ ns : List Int, PyData.depthAll (ns.map PyData.int) = 0
  | [] => by simp only [List.map_nil, PyData.depthAll]
  | n :: ns => by simp only [List.map_cons, PyData.depthAll, PyData.depth, dep_ints ns, Nat.max_self]
theorem shaped_list {ds : List PyData} (h : PyData.canLayAll0 ds = true) (hd : PyData.depthAll ds ≤ 60) : PySem.SeqAt.shaped (.list ds) = true := by
  unfold PySem.SeqAt.shaped
  rw [Bool.and_eq_true, decide_eq_true_eq]
  refine ⟨by simp only [PyData.canLay0, h], ?_⟩
  simp only [PyData.depth]
  omega
theorem shaped_tuple {ds : List PyData} (h : PyData.canLayAll0 ds = true) (hd : PyData.depthAll ds ≤ 60) : PySem.SeqAt.shaped (.tuple ds) = true := by
  unfold PySem.SeqAt.shaped
  rw [Bool.and_eq_true, decide_eq_true_eq]
  refine ⟨by simp only [PyData.canLay0, h], ?_⟩
  simp only [PyData.depth]
  omega
theorem shaped_ints (ns : List Int) : PySem.SeqAt.shaped (.list (ns.map PyData.int)) = true := shaped_list (lay_ints ns) (by rw [dep_ints]; omega)
theorem shaped_tints (ns : List Int) : PySem.SeqAt.shaped (.tuple (ns.map PyData.int)) = true := shaped_tuple (lay_ints ns) (by rw [dep_ints]; omega)
theorem eqvAll_ints : ∀ ns ms : List Int, PyData.eqvAll (ns.map PyData.int) (ms.map PyData.int) = decide (ns = ms)
  | [], [] => by simp [PyData.eqvAll]
  | [], m :: ms => by simp [PyData.eqvAll]
  | n :: ns, [] => by simp [PyData.eqvAll]
  | n :: ns, m :: ms => by
    simp only [List.map_cons, PyData.eqvAll, PyData.eqv, eqvAll_ints ns ms, List.cons.injEq, Bool.decide_and]
    congr 1
theorem eqv_ints (ns ms : List Int) : PyData.eqv (.list (ns.map PyData.int)) (.list (ms.map PyData.int)) = decide (ns = ms) := by
  simp only [PyData.eqv, eqvAll_ints]
theorem eqv_tints (ns ms : List Int) : PyData.eqv (.tuple (ns.map PyData.int)) (.tuple (ms.map PyData.int)) = decide (ns = ms) := by
  simp only [PyData.eqv, eqvAll_ints]
/-- xs != [] -/
theorem ev_neNil {K : PySem.W.Frag} {σ : L2.St} {H : Hp} {ta : TE} {a : Addr} {ns : List Int} (ha : Ev ta σ H (.ref a)) (hx : SqL K H a (ns.map V.int)) : Ev (tOp (rNeD K) ta (tLst tNil)) σ H (.bl (!decide (ns = []))) :=
  ev_opL (xs := []) ha (el_lst ea_nil (by decide)) fun p H1 hp e => by
    rw [← eqv_ints ns []]
    exact rv_neD (fun H2 e2 => .lst (ex_l (e.trans e2) hx) (dp_ints ns)) (fun H2 e2 => .lst (sq_of (e2 p _ hp)) .nil) (shaped_ints ns) (shaped_ints [])
theorem atI_ints {ns : List Int} {i : Int} (h0 : 0 ≤ i) (h1 : i < (ns.length : Int)) : atI (ns.map V.int) i = some (.int (ns.getD i.toNat 0)) := by
  obtain ⟨j, rfl⟩ : ∃ j : Nat, i = (j : Int) := ⟨i.toNat, by omega⟩
  have hj : j < ns.length := by omega
  refine atI_nat ?_
  rw [List.getElem?_map, Int.toNat_natCast, List.getD_eq_getElem?_getD, List.getElem?_eq_getElem hj]
  rfl
/-! items of displays of numbers -/
inductive Ints : List V → List Int → Prop
  | nil : Ints [] []
  | cons {i : Int} {vs : List V} {ns : List Int} : Ints vs ns → Ints (.int i :: vs) (i :: ns)
theorem Ints.map {vs : List V} {ns : List Int} (h : Ints vs ns) : vs = ns.map V.int := by
  induction h with
  | nil => rfl
  | cons _ ih => rw [ih]; rfl
theorem atI_disp {vs : List V} {ns : List Int} {i : Int} (h : Ints vs ns) (h0 : 0 ≤ i) (h1 : i < (ns.length : Int)) : atI vs i = some (.int (ns.getD i.toNat 0)) := by
  rw [h.map]
  exact atI_ints h0 h1
theorem getD_in {lo hi : Int} : ∀ (l : List Int) (n : Nat), (∀ x ∈ l, lo ≤ x ∧ x ≤ hi) → n < l.length → lo ≤ l.getD n 0 ∧ l.getD n 0 ≤ hi
  | [], _, _, h => absurd h (Nat.not_lt_zero _)
  | x :: _, 0, h, _ => h x List.mem_cons_self
  | _ :: l, n + 1, h, hn => getD_in l n (fun x hx => h x (List.mem_cons_of_mem _ hx)) (Nat.lt_of_succ_lt_succ hn)
def opV : Option Int → V
  | none => .non
  | some i => .int i
local macro_rules | `(tactic| walk_at "tk_at") => `(tactic| fail "tk_at")
local macro_rules | `(tactic| walk_at "tk_at") => `(tactic| exact rfl)
local macro_rules | `(tactic| walk_at "tk_at") => `(tactic| (refine atI_ints ?_ ?_ <;> omega))
local macro_rules | `(tactic| walk_at "tk_at") => `(tactic| (apply atI_disp; (repeat (first | exact Ints.nil | apply Ints.cons)); omega; (simp only [List.length_cons, List.length_nil]; omega)))
local macro_rules | `(tactic| walk_at "tk_len") => `(tactic| (with_reducible apply ev_lenL))
local macro_rules | `(tactic| walk_at "tk_R") => `(tactic| fail "tk_R")
local macro_rules | `(tactic| walk_at "tk_om") => `(tactic| first | omega | (simp only [List.length_map]; omega))
local macro_rules | `(tactic| walk_at "tk_ev") => `(tactic| repeat' (first
  | exact ev_c
  | (with_reducible apply rt_ret)
  | (with_reducible exact rt_retN)
  | (with_reducible apply rt_ifseq)
  | (with_reducible apply rt_seq)
  | (with_reducible apply nx_asg)
  | (with_reducible exact nx_next)
  | (with_reducible apply nx_drop)
  | (with_reducible apply rt_if)
  | (with_reducible apply rtw_ret)
  | (with_reducible apply rtw_seq)
  | ((with_reducible apply ev_var); exact rfl)
  | (with_reducible apply ev_max)
  | (with_reducible apply ev_min)
  | (with_reducible apply ev_intB)
  | (with_reducible apply ev_isN)
  | (with_reducible apply ev_notN)
  | (with_reducible apply ev_if)
  | (with_reducible apply ev_andV)
  | (with_reducible apply ev_orV)
  | (with_reducible apply ev_notV)
  | (with_reducible apply ev_chain)
  | ((with_reducible apply ev_lenI); (with_reducible apply ev_var); exact rfl; assumption)
  | walk_at "tk_len"
  | (with_reducible apply ev_fld)
  | (with_reducible apply ev_pair0)
  | (with_reducible apply ev_pair1)
  | (with_reducible apply ev_ixN)
  | (with_reducible apply ev_ixL)
  | (with_reducible apply ev_ixT)
  | (with_reducible apply ev_methF)
  | (with_reducible apply ev_callF)
  | ((with_reducible show ∀ _, Ex _ _ → _); walk_at "tk_R")
  | (with_reducible apply ev_op)
  | (with_reducible apply ev_un)
  | exact rv_I0
  | ((with_reducible show RV (rI _ _) _ _ _ _); apply rv_I)
  | exact rv_eq rfl
  | exact rv_ne rfl
  | exact ru_neg
  | (with_reducible apply et_test)
  | (with_reducible apply et_B)
  | (with_reducible apply et_and)
  | (with_reducible apply et_or)
  | (with_reducible apply et_not)
  | exact ea_nil
  | (with_reducible apply ea_cons)
  | (with_reducible apply eu_tup)
  | (with_reducible apply el_lst)
  | ((with_reducible show SqL _ _ _ _); assumption)
  | ((with_reducible show PairsT _ _ _); assumption)
  | ((with_reducible show Cls _ _); assumption)
  | ((with_reducible show NoAttr _ _ _); assumption)
  | ((with_reducible show _ = some (HO.ins _ _ _)); assumption)
  | ((with_reducible show List.lookup _ _ = some _); exact rfl)
  | ((with_reducible show List.lookup _ _ = none); exact rfl)
  | ((with_reducible show _[_]? = some _); exact getD_some (by walk_at "tk_om"))
  | ((with_reducible show (0 : Int) ≤ _); walk_at "tk_om")
  | ((with_reducible show SqT _ _ _ _); assumption)
  | ((with_reducible show atI _ _ = some _); walk_at "tk_at")
  | ((with_reducible show CMul _ _); first | (exact .inl (by decide)) | (exact .inr (by decide)) | (exact .inl (by omega)) | (exact .inr (by omega)))
  | ((with_reducible show CDiv _ _); first | (exact ⟨by decide, by decide⟩) | (exact ⟨by walk_at "tk_om", by walk_at "tk_om"⟩))
  | ((with_reducible show CPow _ _); exact ⟨by decide, by decide, by decide⟩)
  | ((with_reducible show _ ≤ 100000); first | decide | (simp only [List.length_cons, List.length_nil]; omega))
  | ((with_reducible show (0 : Int) < _); first | decide | walk_at "tk_om")
  | ((with_reducible show (_ = true → _)); intro)
  | ((with_reducible show (_ = false → _)); intro)))
/-! a drawn number of the script's -/
def mixV (c k : Int) : Int := (c % 2147483647 * (c % 2147483647) % 2147483629 * (c % 2147483647 * (c % 2147483647) % 2147483629) + 69621 * (c % 2147483647 * (c % 2147483647) % 2147483629) + k) % 2147483587
def cellV (ns : List Int) (k : Int) : Int := mixV (if ns = [] then 7919 * k + 11 else 7919 * k + 11 + ns.getD (k % (ns.length : Int)).toNat 0 * 48271 + 96810 * k + k / (ns.length : Int) * 7919) k
theorem cellV_nn (ns : List Int) (k : Int) : 0 ≤ cellV ns k := Int.emod_nonneg _ (by decide)
theorem cellV_lt (ns : List Int) (k : Int) : cellV ns k < 2147483587 := Int.emod_lt_of_pos _ (by decide)
def RCell (K : PySem.W.Frag) (vs : List V) (H : Hp) (v : V) : Prop := ∃ (a : Addr) (ns : List Int) (k : Int), vs = [.ref a, .int k] ∧ SqL K H a (ns.map V.int) ∧ ns.length ≤ 63 ∧ 0 ≤ k ∧ v = .int (cellV ns k)
section
variable {P : Program} {w : World} {K : PySem.W.Frag} {mg : Str → Option Value} {base : Heap}
theorem cal_Lcell {f : Addr} {fd : FuncData} (T : Blt mg) (F : C8.Def K mg "_law_cell" s_Lcell f fd) (b : Binds K fd ["_law_script", "_law_k"] []) : C8.Cal P w K mg base 1 "_law_cell" (spF (RCell K)) [] := by
  refine calF F b sc_Lcell (fun vs H v h => ?_) (fun cdv A outer s H vs v E hr h => ?_)
  · obtain ⟨a, ns, k, rfl, _⟩ := h
    rfl
  · obtain ⟨a, ns, k, rfl, hS, hl, hk, rfl⟩ := h
    refine ⟨_, (pss_cons (ps_set (i := 2) sc_Lcell.nd rfl (Or.inl rfl) (pe_op op_add (pe_op op_mul pe_int (pv 1)) pe_int))
  (pss_cons (ps_if (pt_cmpR (op_neD hr.units) (pv 0) (pe_lst pa_nil) (nomark _))
    (pss_cons (ps_set (i := 2) sc_Lcell.nd rfl (Or.inl rfl) (pe_op op_add (pe_op op_add (pv 2) (pe_op op_mul (pe_ix ix_list (pv 0) (pe_op op_mod (pv 1) (pe_callB call_len_seq (by rfl) T.b_len boot_len (pa_cons (pv 0) pa_nil))) (fun _ _ => rfl)) pe_int)) (pe_op op_mul pe_int (pv 1))))
    (pss_one (ps_set (i := 2) sc_Lcell.nd rfl (Or.inl rfl) (pe_op op_add (pv 2) (pe_op op_mul (pe_op op_fdiv (pv 1) (pe_callB call_len_seq (by rfl) T.b_len boot_len (pa_cons (pv 0) pa_nil))) pe_int)))))
    pss_nil)
  (pss_cons (ps_set (i := 3) sc_Lcell.nd rfl (Or.inl rfl) (pe_op op_mod (pv 2) pe_int))
  (pss_cons (ps_set (i := 3) sc_Lcell.nd rfl (Or.inl rfl) (pe_op op_mod (pe_op op_mul (pv 3) (pv 3)) pe_int))
  (pss_one (ps_ret (pe_op op_mod (pe_op op_add (pe_op op_add (pe_op op_mul (pv 3) (pv 3)) (pe_op op_mul pe_int (pv 3))) (pv 1)) pe_int))))))), ?_⟩
    have m1 : ∀ c : Int, 0 ≤ c % 2147483647 ∧ c % 2147483647 < 2147483647 := fun c => ⟨Int.emod_nonneg _ (by decide), Int.emod_lt_of_pos _ (by decide)⟩
    have m2 : ∀ c : Int, 0 ≤ c % 2147483629 ∧ c % 2147483629 < 2147483629 := fun c => ⟨Int.emod_nonneg _ (by decide), Int.emod_lt_of_pos _ (by decide)⟩
    refine rt_seq (nx_asg (v := .int (7919 * k + 11)) (by walk_at "tk_ev")) ?_
    refine rt_seq (σ' := [some (.ref a), some (.int k), some (.int (if ns = [] then 7919 * k + 11 else 7919 * k + 11 + ns.getD (k % (ns.length : Int)).toNat 0 * 48271 + 96810 * k + k / (ns.length : Int) * 7919)), none]) (nx_if (et_test (ev_neNil (ev_var rfl) hS)) (fun hb => ?_) (fun hb => ?_)) ?_
    · have hne : ns ≠ [] := by simpa using hb
      rw [if_neg hne]
      have hp : 0 < (ns.length : Int) := by
        have := List.length_pos_iff.mpr hne
        omega
      have q0 : 0 ≤ k % (ns.length : Int) := Int.emod_nonneg _ (by omega)
      have q1 : k % (ns.length : Int) < (ns.length : Int) := Int.emod_lt_of_pos _ hp
      refine nx_seq (nx_asg (v := .int (7919 * k + 11 + ns.getD (k % (ns.length : Int)).toNat 0 * 48271 + 96810 * k)) ?_) (nx_asg (v := .int (7919 * k + 11 + ns.getD (k % (ns.length : Int)).toNat 0 * 48271 + 96810 * k + k / (ns.length : Int) * 7919)) ?_)
      · walk_at "tk_ev"
      · walk_at "tk_ev"
    · have hne : ns = [] := by simpa using hb
      rw [if_pos hne]
      exact nx_next
    · unfold cellV
      generalize (if ns = [] then 7919 * k + 11 else 7919 * k + 11 + ns.getD (k % (ns.length : Int)).toNat 0 * 48271 + 96810 * k + k / (ns.length : Int) * 7919) = c at *
      have c1 := m1 c
      have c2 := m2 (c % 2147483647 * (c % 2147483647))
      walk_at "tk_ev"
end
/-! what counts as a number within limits; the bounds -/
structure Cst (mg : Str → Option Value) : Prop where
  g_LARGEST_SIZE : ∃ u, mg "LARGEST_SIZE" = some u ∧ RelV (.int 1000000000000000) u
  g_LARGEST_FLOW : ∃ u, mg "LARGEST_FLOW" = some u ∧ RelV (.int 1000000000) u
  g_LARGEST_MOST : ∃ u, mg "LARGEST_MOST" = some u ∧ RelV (.int 1000000000000000) u
  g_LARGEST_SPAN : ∃ u, mg "LARGEST_SPAN" = some u ∧ RelV (.int 1000000000000) u
/-- no number: None, a truth, or of a type beside int -/
def NoInt (K : PySem.W.Frag) (H : Hp) (x : V) : Prop := (∃ b, x = .bl b) ∨ ∃ n : String, (∀ H1, Ex H H1 → TyX K H1 x (.type n)) ∧ kitB n "int" = some false
theorem NoInt.mono {K : PySem.W.Frag} {H H' : Hp} {x : V} (e : Ex H H') (h : NoInt K H x) : NoInt K H' x := h.imp id fun ⟨n, h1, h2⟩ => ⟨n, fun H1 e1 => h1 H1 (e.trans e1), h2⟩
def RWithin (K : PySem.W.Frag) (vs : List V) (H : Hp) (v : V) : Prop := ∃ x lo hi, vs = [x, .int lo, .int hi] ∧ ((∃ i, x = .int i ∧ v = .bl (decide (lo ≤ i) && decide (i ≤ hi))) ∨ (NoInt K H x ∧ v = .bl false))
structure ClJar (K : PySem.W.Frag) (C : Addr) : Prop where
  cl : Cls K C
  n1 : NoAttr K C "_size"
  n2 : NoAttr K C "_flow"
structure ClWin (K : PySem.W.Frag) (C : Addr) : Prop where
  cl : Cls K C
  n1 : NoAttr K C "_most"
  n2 : NoAttr K C "_span"
def fJar (s f : Int) : List (Str × V) := [("_size", .int s), ("_flow", .int f)]
def fWin (m s : Int) : List (Str × V) := [("_most", .int m), ("_span", .int s)]
def DJar (as : List V) : Prop := ∃ s f : Int, as = [.int s, .int f] ∧ 1 ≤ s ∧ s ≤ 1000000000000000 ∧ 0 ≤ f ∧ f ≤ 1000000000
def DWin (as : List V) : Prop := ∃ m s : Int, as = [.int m, .int s] ∧ 1 ≤ m ∧ m ≤ 1000000000000000 ∧ 1 ≤ s ∧ s ≤ 1000000000000
def JJar (C : Addr) (as : List V) (x dx : Addr) (H : Hp) : Prop := ∃ s f, as = [.int s, .int f] ∧ H x = some (.ins C dx (fJar s f))
def JWin (C : Addr) (as : List V) (x dx : Addr) (H : Hp) : Prop := ∃ m s, as = [.int m, .int s] ∧ H x = some (.ins C dx (fWin m s))
theorem tyi {K : PySem.W.Frag} {H : Hp} (i : Int) : ∀ H1, Ex H H1 → TyX K H1 (.int i) (.type "int") := fun _ _ => .base (.int i)
theorem tyb {K : PySem.W.Frag} {H : Hp} (b : Bool) : ∀ H1, Ex H H1 → TyX K H1 (.bl b) (.type "bool") := fun _ _ => .base (.bl b)
theorem kii {K : PySem.W.Frag} : PySem.W.kitOne K (.type "int") (.type "int") = some true := kit_ty (by decide +kernel)
theorem kib {K : PySem.W.Frag} : PySem.W.kitOne K (.type "int") (.type "bool") = some false := kit_ty (by decide +kernel)
theorem kbi {K : PySem.W.Frag} : PySem.W.kitOne K (.type "bool") (.type "int") = some true := kit_ty (by decide +kernel)
theorem kbb {K : PySem.W.Frag} : PySem.W.kitOne K (.type "bool") (.type "bool") = some true := kit_ty (by decide +kernel)
section
variable {P : Program} {w : World} {K : PySem.W.Frag} {mg : Str → Option Value} {base : Heap} {C : Addr}
theorem cal_is_within {f : Addr} {fd : FuncData} (T : Blt mg) (F : C8.Def K mg "is_within" s_is_within f fd) (b : Binds K fd ["value", "least", "largest"] []) : C8.Cal P w K mg base 1 "is_within" (spF (RWithin K)) [] := by
  refine calF F b sc_is_within (fun vs H v h => ?_) (fun cdv A outer s H vs v E hr h => ?_)
  · obtain ⟨x, lo, hi, rfl, _⟩ := h
    rfl
  · obtain ⟨x, lo, hi, rfl, h⟩ := h
    refine ⟨_, (pss_one (ps_ret (pe_and (pe_callB call_isi (by rfl) T.b_isinstance boot_isinstance (pa_cons (pv 0) (pa_cons (pe_bltn (v := .ty "int") (by rfl) T.b_int boot_int rfl) pa_nil))) (pe_and (pe_not (pe_callB call_isi (by rfl) T.b_isinstance boot_isinstance (pa_cons (pv 0) (pa_cons (pe_bltn (v := .ty "bool") (by rfl) T.b_bool boot_bool rfl) pa_nil)))) (pe_one (pe_chain op_le op_le (pv 1) (pv 0) (pv 2))))))), ?_⟩
    rcases h with ⟨i, rfl, rfl⟩ | ⟨h, rfl⟩
    · refine rt_ret (ev_is (ev_andV (a := true) (b := decide (lo ≤ i) && decide (i ≤ hi)) (ev_isi (ev_var rfl) ev_c (.ty "int") (tyi i) kii) fun _ => ev_is (ev_andV (a := true) (b := decide (lo ≤ i) && decide (i ≤ hi)) (ev_notV (a := false) (ev_isi (ev_var rfl) ev_c (.ty "bool") (tyi i) kib)) fun _ => ev_chain (ev_var rfl) (ev_var rfl) rv_I0 (fun _ => ev_var rfl) fun _ => rv_I0) (by rw [Bool.true_and])) (by rw [Bool.true_and]))
    · rcases h with ⟨q, rfl⟩ | ⟨n, hn, hk⟩
      · refine rt_ret (ev_is (ev_andV (a := true) (b := false) (ev_isi (ev_var rfl) ev_c (.ty "int") (tyb q) kbi) fun _ => ev_is (ev_andV (a := false) (b := false) (ev_notV (a := true) (ev_isi (ev_var rfl) ev_c (.ty "bool") (tyb q) kbb)) fun z => by cases z) rfl) rfl)
      · refine rt_ret (ev_andV (a := false) (b := false) (ev_isi (ev_var rfl) ev_c (.ty "int") hn (kit_ty hk)) fun z => by cases z)
theorem rWithin {H : Hp} {i lo hi : Int} {b : Bool} (h : (decide (lo ≤ i) && decide (i ≤ hi)) = b) : ∀ H1, Ex H H1 → RWithin K [.int i, .int lo, .int hi] H1 (.bl b) := fun H1 _ => ⟨.int i, lo, hi, rfl, .inl ⟨i, rfl, by rw [h]⟩⟩
end
/-! the bounds, made of anything: a bound, or NoBound -/
structure NBt (K : PySem.W.Frag) (mg : Str → Option Value) (CN : Addr) : Prop where
  gP : mg "NoBound" = some (.ref CN)
  xP : PySem.W.excIn K CN [.type "ValueError", .type "Exception", .type "BaseException", .type "object"] "ValueError.__new__" = true
  kP : PySem.W.keepIn K (.ref CN) = true
  bP : PySem.W.subIn K (.ref CN) (.type "BaseException") = some true
  tP : PySem.W.typeIn K (.ref CN) = some (.type "type")
def Kd (K : PySem.W.Frag) (H : Hp) (x : V) : Prop := (∃ i, x = .int i) ∨ (NoInt K H x ∧ ∀ i, x ≠ .int i)
theorem Kd.mono {K : PySem.W.Frag} {H H' : Hp} {x : V} (e : Ex H H') (h : Kd K H x) : Kd K H' x := h.imp id fun ⟨a, b⟩ => ⟨a.mono e, b⟩
def inR (x : V) (lo hi : Int) : Bool := match x with
  | .int i => decide (lo ≤ i) && decide (i ≤ hi)
  | _ => false
theorem inR_no {x : V} {lo hi : Int} (h : ∀ i, x ≠ .int i) : inR x lo hi = false := by
  unfold inR
  split
  · exact absurd rfl (h _)
  · rfl
theorem rWithinK {K : PySem.W.Frag} {H : Hp} {x : V} {lo hi : Int} (h : Kd K H x) : ∀ H1, Ex H H1 → RWithin K [x, .int lo, .int hi] H1 (.bl (inR x lo hi)) := fun H1 e => by
  rcases h with ⟨i, rfl⟩ | ⟨h1, h2⟩
  · exact ⟨.int i, lo, hi, rfl, .inl ⟨i, rfl, rfl⟩⟩
  · exact ⟨x, lo, hi, rfl, .inr ⟨h1.mono e, by rw [inR_no h2]⟩⟩
theorem inR_int {x : V} {lo hi : Int} (h : inR x lo hi = true) : ∃ i, x = .int i ∧ lo ≤ i ∧ i ≤ hi := by
  unfold inR at h
  split at h
  · rename_i i
    rw [Bool.and_eq_true] at h
    exact ⟨i, rfl, of_decide_eq_true h.1, of_decide_eq_true h.2⟩
  · cases h
def spBX (K : PySem.W.Frag) (C CN : Addr) (l1 h1 l2 h2 : Int) (mk : Int → Int → List (Str × V)) : Sp := fun vs H Q E => ∃ x dx a b, vs = [.ref x, a, b] ∧ H x = some (.ins C dx []) ∧ Kd K H a ∧ Kd K H b ∧
  (∀ s f, a = .int s → b = .int f → (inR a l1 h1 && inR b l2 h2) = true → ∀ H2, (∀ c o, c ≠ x → H c = some o → H2 c = some o) → H2 x = some (.ins C dx (mk s f)) → Q .non H2) ∧
  ((inR a l1 h1 && inR b l2 h2) = false → ∀ H2, Ex H H2 → E (.ref CN) none H2)
section
variable {P : Program} {w : World} {K : PySem.W.Frag} {mg : Str → Option Value} {base : Heap} {C CN : Addr}
theorem fnX {x qual : Str} {st : Stmt} {f : Addr} {fd : FuncData} {N ps : List Str} {k : Nat} {sp : Sp} (F : C8.Fun K x qual st f fd) (S : FnScope N ps (C8.fnScope st)) (len : ∀ vs H Q E, sp vs H Q E → vs.length = ps.length)
    (hbody : ∀ (cdv : Value) (A : Around) (outer : List Env) (s : Shared) (H : Hp) (vs : List V) (Q : VK) (E : XK), Room k (A.deeper (envOfC qual (C8.fnScope st) s.heap.objs.size f cdv)) → sp vs H Q E →
      ∃ t, PSs (cxOf (L2.CX P w) P w K mg base N qual (C8.fnScope st) f cdv A outer s H E) (C8.fnBody st) t ∧ t { nx := fun _ H' => Q .non H', rt := Q } (start N vs) H) : FnOk P w K mg base (L2.CX P w) (k + 1) f fd ps sp := by
  obtain ⟨oc, od, dV, kV, doc, pm, an, cdv, ct, osl, rfl, lk, hcd⟩ := F.ex
  exact fn_of lk hcd S len fun A outer s H vs Q E hr hsp => hbody cdv A outer s H vs Q E hr hsp
theorem fmt_n {n : Int} (h : n.natAbs.log2 < 1920) {H : Hp} {σ : L2.St} : Ev (tFmt (tC (.int n))) σ H (.str (toString n)) := fun H1 _ Q q => .inr ⟨n, rfl, h, q H1 (Ex.refl _)⟩
theorem ok_Jar {f : Addr} {fd : FuncData} (G : Cst mg) (N : NBt K mg CN) (k : ClJar K C) (c_is_within : C8.Cal P w K mg base 1 "is_within" (spF (RWithin K)) []) (F : C8.Fun K "__init__" "Jar.__init__" s_Jar_init f fd) : FnOk P w K mg base (L2.CX P w) 2 f fd ["self", "size", "flow"] (spBX K C CN 1 1000000000000000 0 1000000000 fJar) := by
  obtain ⟨cl, n1, n2⟩ := k
  refine fnX F sc_Jar_init (fun vs H Q E h => ?_) (fun cdv A outer s H vs Q E hr h => ?_)
  · obtain ⟨x, dx, a, b, rfl, _⟩ := h
    rfl
  · obtain ⟨x, dx, a, b, rfl, hx, ka, kb, q, qe⟩ := h
    refine ⟨_, (pss_cons (ps_if (pt_not (pt_val (C8.pe_c c_is_within hr (by decide) rfl (pa_cons (pv 1) (pa_cons pe_int (pa_cons (C8.pe_gc rfl G.g_LARGEST_SIZE) pa_nil))))))
    (pss_one (ps_raise rfl (takes_of rfl rfl rfl rfl) (SkE.pmk_own1 PySem.F.excBase_ValueError N.xP N.gP N.kP (raises_own N.bP N.tP) rfl (pe_joined (.cons pe_str (.cons (pe_fmt (C8.pe_gc rfl G.g_LARGEST_SIZE)) .nil))))))
    pss_nil)
  (pss_cons (ps_if (pt_not (pt_val (C8.pe_c c_is_within hr (by decide) rfl (pa_cons (pv 2) (pa_cons pe_int (pa_cons (C8.pe_gc rfl G.g_LARGEST_FLOW) pa_nil))))))
    (pss_one (ps_raise rfl (takes_of rfl rfl rfl rfl) (SkE.pmk_own1 PySem.F.excBase_ValueError N.xP N.gP N.kP (raises_own N.bP N.tP) rfl (pe_joined (.cons pe_str (.cons (pe_fmt (C8.pe_gc rfl G.g_LARGEST_FLOW)) .nil))))))
    pss_nil)
  (pss_cons (ps_fld (pv 0) (pv 1) rfl)
  (pss_one (ps_fld (pv 0) (pv 2) rfl))))), ?_⟩
    have e1 : ∀ (σ : L2.St) {H1 : Hp} {x : V} {lo hi : Int} {te : TE}, Kd K H1 x → Ev te σ H1 x → EvT (tNot (tB (tCall (spF (RWithin K)) [] C8.E0 (tCons te (tCons (tC (.int lo)) (tCons (tC (.int hi)) tNil)))))) σ H1 (!inR x lo hi) := fun _ _ _ _ _ _ hk he => et_not (et_B (ev_callF (ea_cons he (ea_cons ev_c (ea_cons ev_c ea_nil))) (rWithinK hk)))
    refine q_when (b := !inR a 1 1000000000000000) (e1 _ ka (ev_var (i := 1) rfl)) (fun ha H1 g1 => ?_) (fun ha H1 g1 => ?_)
    · refine ⟨_, rfl, by decide, ?_⟩
      refine fmt_n (by decide +kernel) H1 (Ex.refl H1) _ fun H2 g2 => ⟨_, rfl, by decide +kernel, ?_⟩
      rw [Bool.not_eq_true'] at ha
      exact qe (by rw [ha, Bool.false_and]) H2 (g1.trans g2)
    · rw [Bool.not_eq_false'] at ha
      refine q_when (b := !inR b 0 1000000000) (e1 _ (kb.mono g1) (ev_var (i := 2) rfl)) (fun hb H2 g2 => ?_) (fun hb H2 g2 => ?_)
      · refine ⟨_, rfl, by decide, ?_⟩
        refine fmt_n (by decide +kernel) H2 (Ex.refl H2) _ fun H3 g3 => ⟨_, rfl, by decide +kernel, ?_⟩
        rw [Bool.not_eq_true'] at hb
        exact qe (by rw [hb, Bool.and_false]) H3 ((g1.trans g2).trans g3)
      · rw [Bool.not_eq_false'] at hb
        obtain ⟨s, rfl, _⟩ := inR_int ha
        obtain ⟨f, rfl, _⟩ := inR_int hb
        replace hx := g2 _ _ (g1 _ _ hx)
        refine ⟨_, rfl, _, rfl, x, C, dx, _, rfl, hx, cl, n1, by show 0 < 1000; decide, ?_⟩
        refine ⟨_, rfl, _, rfl, x, C, dx, _, rfl, upd_same, cl, n2, by show 1 < 1000; decide, ?_⟩
        refine q s f rfl rfl (by rw [ha, hb]; rfl) _ (fun c o hc e => ?_) upd_same
        rw [upd_ne hc, upd_ne hc]
        exact g2 _ _ (g1 _ _ e)
theorem ok_Window {f : Addr} {fd : FuncData} (G : Cst mg) (N : NBt K mg CN) (k : ClWin K C) (c_is_within : C8.Cal P w K mg base 1 "is_within" (spF (RWithin K)) []) (F : C8.Fun K "__init__" "Window.__init__" s_Window_init f fd) : FnOk P w K mg base (L2.CX P w) 2 f fd ["self", "most", "span"] (spBX K C CN 1 1000000000000000 1 1000000000000 fWin) := by
  obtain ⟨cl, n1, n2⟩ := k
  refine fnX F sc_Window_init (fun vs H Q E h => ?_) (fun cdv A outer s H vs Q E hr h => ?_)
  · obtain ⟨x, dx, a, b, rfl, _⟩ := h
    rfl
  · obtain ⟨x, dx, a, b, rfl, hx, ka, kb, q, qe⟩ := h
    refine ⟨_, (pss_cons (ps_if (pt_not (pt_val (C8.pe_c c_is_within hr (by decide) rfl (pa_cons (pv 1) (pa_cons pe_int (pa_cons (C8.pe_gc rfl G.g_LARGEST_MOST) pa_nil))))))
    (pss_one (ps_raise rfl (takes_of rfl rfl rfl rfl) (SkE.pmk_own1 PySem.F.excBase_ValueError N.xP N.gP N.kP (raises_own N.bP N.tP) rfl (pe_joined (.cons pe_str (.cons (pe_fmt (C8.pe_gc rfl G.g_LARGEST_MOST)) .nil))))))
    pss_nil)
  (pss_cons (ps_if (pt_not (pt_val (C8.pe_c c_is_within hr (by decide) rfl (pa_cons (pv 2) (pa_cons pe_int (pa_cons (C8.pe_gc rfl G.g_LARGEST_SPAN) pa_nil))))))
    (pss_one (ps_raise rfl (takes_of rfl rfl rfl rfl) (SkE.pmk_own1 PySem.F.excBase_ValueError N.xP N.gP N.kP (raises_own N.bP N.tP) rfl (pe_joined (.cons pe_str (.cons (pe_fmt (C8.pe_gc rfl G.g_LARGEST_SPAN)) .nil))))))
    pss_nil)
  (pss_cons (ps_fld (pv 0) (pv 1) rfl)
  (pss_one (ps_fld (pv 0) (pv 2) rfl))))), ?_⟩
    have e1 : ∀ (σ : L2.St) {H1 : Hp} {x : V} {lo hi : Int} {te : TE}, Kd K H1 x → Ev te σ H1 x → EvT (tNot (tB (tCall (spF (RWithin K)) [] C8.E0 (tCons te (tCons (tC (.int lo)) (tCons (tC (.int hi)) tNil)))))) σ H1 (!inR x lo hi) := fun _ _ _ _ _ _ hk he => et_not (et_B (ev_callF (ea_cons he (ea_cons ev_c (ea_cons ev_c ea_nil))) (rWithinK hk)))
    refine q_when (b := !inR a 1 1000000000000000) (e1 _ ka (ev_var (i := 1) rfl)) (fun ha H1 g1 => ?_) (fun ha H1 g1 => ?_)
    · refine ⟨_, rfl, by decide, ?_⟩
      refine fmt_n (by decide +kernel) H1 (Ex.refl H1) _ fun H2 g2 => ⟨_, rfl, by decide +kernel, ?_⟩
      rw [Bool.not_eq_true'] at ha
      exact qe (by rw [ha, Bool.false_and]) H2 (g1.trans g2)
    · rw [Bool.not_eq_false'] at ha
      refine q_when (b := !inR b 1 1000000000000) (e1 _ (kb.mono g1) (ev_var (i := 2) rfl)) (fun hb H2 g2 => ?_) (fun hb H2 g2 => ?_)
      · refine ⟨_, rfl, by decide, ?_⟩
        refine fmt_n (by decide +kernel) H2 (Ex.refl H2) _ fun H3 g3 => ⟨_, rfl, by decide +kernel, ?_⟩
        rw [Bool.not_eq_true'] at hb
        exact qe (by rw [hb, Bool.and_false]) H3 ((g1.trans g2).trans g3)
      · rw [Bool.not_eq_false'] at hb
        obtain ⟨s, rfl, _⟩ := inR_int ha
        obtain ⟨f, rfl, _⟩ := inR_int hb
        replace hx := g2 _ _ (g1 _ _ hx)
        refine ⟨_, rfl, _, rfl, x, C, dx, _, rfl, hx, cl, n1, by show 0 < 1000; decide, ?_⟩
        refine ⟨_, rfl, _, rfl, x, C, dx, _, rfl, upd_same, cl, n2, by show 1 < 1000; decide, ?_⟩
        refine q s f rfl rfl (by rw [ha, hb]; rfl) _ (fun c o hc e => ?_) upd_same
        rw [upd_ne hc, upd_ne hc]
        exact g2 _ _ (g1 _ _ e)
end
/-! rooms and fields -/
def tPropF (C : Addr) (R : List V → Hp → V → Prop) (ta : TE) : TE := tProp C (spF R) [] C8.E0 ta
structure Prp (P : Program) (w : World) (K : PySem.W.Frag) (mg : Str → Option Value) (base : Heap) (k : Nat) (C : Addr) (f : Str) (sp : Sp) : Prop where
  ex : ∃ (p g : Addr) (fd : FuncData) (ps : List Str), Cls K C ∧ PropOf K C f p g ∧ FnOk P w K mg base C8.CX0 k g fd ps sp ∧ Binds K fd ps []
theorem pe_pr {X : Cx} {k j : Nat} {C : Addr} {f : Str} {sp : Sp} {e : Expr} {pos : Pos} {ta : TE} (c : Prp X.prog X.w X.K X.mg X.base k C f sp) (hr : Room j X.A) (hk : k + 1 ≤ j) (he : PE X e ta) (hab : attributeBase e f X.env (eval e X.env) = eval e X.env := by rfl) : PE X (.Attribute e f pos) (tProp C sp [] C8.E0 ta) := by
  obtain ⟨p, g, fd, ps, h1, h2, F, h3⟩ := c.ex
  exact pe_prop he h1 h2 F (hr.mono hk) h3 .nil C8.pass0 hab
theorem ev_prop {R : List V → Hp → V → Prop} {ta : TE} {σ : L2.St} {H : Hp} {a C dx : Addr} {fs : List (Str × V)} {E : XK} {v : V} (ha : Ev ta σ H (.ref a)) (hx : H a = some (.ins C dx fs)) (hR : ∀ H1, Ex H H1 → R [.ref a] H1 v) : Ev (tProp C (spF R) [] E ta) σ H v := fun H1 e Q q =>
  ha H1 e _ fun H2 e2 => ⟨a, dx, fs, rfl, (e.trans e2) _ _ hx, v, fun H3 e3 => hR H3 ((e.trans e2).trans e3), fun H3 e3 => q H3 (e2.trans e3)⟩
def RGet (C : Addr) (f : Str) (vs : List V) (H : Hp) (v : V) : Prop := ∃ y dy fs, vs = [.ref y] ∧ H y = some (.ins C dy fs) ∧ fs.lookup f = some v
def RRoomJ (C : Addr) (vs : List V) (H : Hp) (v : V) : Prop := ∃ y dy s f a b, vs = [.ref y, .int a, .int b] ∧ H y = some (.ins C dy (fJar s f)) ∧ 0 ≤ f ∧ f ≤ 1000000000 ∧ v = opV (some (s + f * (b - a)))
def RRoomW (C : Addr) (vs : List V) (H : Hp) (v : V) : Prop := ∃ y dy m s a b, vs = [.ref y, .int a, .int b] ∧ H y = some (.ins C dy (fWin m s)) ∧ v = opV (if b - a < s then some m else none)
section
variable {P : Program} {w : World} {K : PySem.W.Frag} {mg : Str → Option Value} {base : Heap} {C : Addr}
theorem met_Jar_room {f : Addr} {fd : FuncData} (k : ClJar K C) (me : Meth K C "room" f) (F : C8.Fun K "room" "Jar.room" s_Jar_room f fd) (b : Binds K fd ["self", "first", "last"] []) : C8.Met P w K mg base 1 C "room" (spF (RRoomJ C)) [] := by
  obtain ⟨cl, n1, n2⟩ := k
  refine metF cl me F b sc_Jar_room (fun vs H v h => ?_) (fun cdv A outer s H vs v E hr h => ?_)
  · obtain ⟨y, dy, s, f, a, b, rfl, _⟩ := h
    rfl
  · obtain ⟨y, dy, s, f, a, b, rfl, hy, f0, f1, rfl⟩ := h
    refine ⟨_, (pss_one (ps_ret (pe_op op_add (pe_fld (pv 0) rfl) (pe_op op_mul (pe_fld (pv 0) rfl) (pe_op op_sub (pv 2) (pv 1)))))), ?_⟩
    show Rt _ _ _ (.int (s + f * (b - a)))
    walk_at "tk_ev"
theorem met_Window_room {f : Addr} {fd : FuncData} (k : ClWin K C) (me : Meth K C "room" f) (F : C8.Fun K "room" "Window.room" s_Window_room f fd) (b : Binds K fd ["self", "first", "last"] []) : C8.Met P w K mg base 1 C "room" (spF (RRoomW C)) [] := by
  obtain ⟨cl, n1, n2⟩ := k
  refine metF cl me F b sc_Window_room (fun vs H v h => ?_) (fun cdv A outer s H vs v E hr h => ?_)
  · obtain ⟨y, dy, m, s, a, b, rfl, _⟩ := h
    rfl
  · obtain ⟨y, dy, m, s, a, b, rfl, hy, rfl⟩ := h
    refine ⟨_, (pss_cons (ps_if (pt_cmpR op_lt (pe_op op_sub (pv 2) (pv 1)) (pe_fld (pv 0) rfl) (nomark _))
    (pss_one (ps_ret (pe_fld (pv 0) rfl)))
    pss_nil)
  (pss_one (ps_ret pe_non))), ?_⟩
    apply rt_ifseq
    · walk_at "tk_ev"
    · intro hb
      have h1 : b - a < s := by simpa using hb
      rw [if_pos h1]
      show Rt _ _ _ (.int m)
      walk_at "tk_ev"
    · intro hb
      have h1 : ¬ b - a < s := by simpa using hb
      rw [if_neg h1]
      walk_at "tk_ev"
end
section
variable {P : Program} {w : World} {K : PySem.W.Frag} {mg : Str → Option Value} {base : Heap} {C : Addr}
theorem prp_Jar_size {p f : Addr} {fd : FuncData} (k : ClJar K C) (pr : PropOf K C "size" p f) (F : C8.Fun K "size" "Jar.size" s_Jar_size f fd) (b : Binds K fd ["self"] []) : Prp P w K mg base 1 C "size" (spF (RGet C "_size")) := by
  obtain ⟨cl, n1, n2⟩ := k
  refine ⟨p, f, fd, _, cl, pr, C8.fn0 F sc_Jar_size (fun vs H Q E ⟨v, h, _⟩ => ?_) (fun cdv A outer s H vs Q E hr ⟨v, h, q⟩ => ?_), b⟩
  · obtain ⟨y, dy, fs, rfl, _⟩ := h H (Ex.refl H)
    rfl
  · obtain ⟨y, dy, fs, rfl, hy, hl⟩ := h H (Ex.refl H)
    exact ⟨_, (pss_one (ps_ret (pe_fld (pv 0) rfl))), (rt_ret (ev_fld (ev_var rfl) hy cl n1 hl)).fin q⟩
theorem prp_Jar_flow {p f : Addr} {fd : FuncData} (k : ClJar K C) (pr : PropOf K C "flow" p f) (F : C8.Fun K "flow" "Jar.flow" s_Jar_flow f fd) (b : Binds K fd ["self"] []) : Prp P w K mg base 1 C "flow" (spF (RGet C "_flow")) := by
  obtain ⟨cl, n1, n2⟩ := k
  refine ⟨p, f, fd, _, cl, pr, C8.fn0 F sc_Jar_flow (fun vs H Q E ⟨v, h, _⟩ => ?_) (fun cdv A outer s H vs Q E hr ⟨v, h, q⟩ => ?_), b⟩
  · obtain ⟨y, dy, fs, rfl, _⟩ := h H (Ex.refl H)
    rfl
  · obtain ⟨y, dy, fs, rfl, hy, hl⟩ := h H (Ex.refl H)
    exact ⟨_, (pss_one (ps_ret (pe_fld (pv 0) rfl))), (rt_ret (ev_fld (ev_var rfl) hy cl n2 hl)).fin q⟩
theorem prp_Window_most {p f : Addr} {fd : FuncData} (k : ClWin K C) (pr : PropOf K C "most" p f) (F : C8.Fun K "most" "Window.most" s_Window_most f fd) (b : Binds K fd ["self"] []) : Prp P w K mg base 1 C "most" (spF (RGet C "_most")) := by
  obtain ⟨cl, n1, n2⟩ := k
  refine ⟨p, f, fd, _, cl, pr, C8.fn0 F sc_Window_most (fun vs H Q E ⟨v, h, _⟩ => ?_) (fun cdv A outer s H vs Q E hr ⟨v, h, q⟩ => ?_), b⟩
  · obtain ⟨y, dy, fs, rfl, _⟩ := h H (Ex.refl H)
    rfl
  · obtain ⟨y, dy, fs, rfl, hy, hl⟩ := h H (Ex.refl H)
    exact ⟨_, (pss_one (ps_ret (pe_fld (pv 0) rfl))), (rt_ret (ev_fld (ev_var rfl) hy cl n1 hl)).fin q⟩
theorem prp_Window_span {p f : Addr} {fd : FuncData} (k : ClWin K C) (pr : PropOf K C "span" p f) (F : C8.Fun K "span" "Window.span" s_Window_span f fd) (b : Binds K fd ["self"] []) : Prp P w K mg base 1 C "span" (spF (RGet C "_span")) := by
  obtain ⟨cl, n1, n2⟩ := k
  refine ⟨p, f, fd, _, cl, pr, C8.fn0 F sc_Window_span (fun vs H Q E ⟨v, h, _⟩ => ?_) (fun cdv A outer s H vs Q E hr ⟨v, h, q⟩ => ?_), b⟩
  · obtain ⟨y, dy, fs, rfl, _⟩ := h H (Ex.refl H)
    rfl
  · obtain ⟨y, dy, fs, rfl, hy, hl⟩ := h H (Ex.refl H)
    exact ⟨_, (pss_one (ps_ret (pe_fld (pv 0) rfl))), (rt_ret (ev_fld (ev_var rfl) hy cl n2 hl)).fin q⟩
end
/-! a bound or the truth that it is refused -/
structure NBx (K : PySem.W.Frag) (mg : Str → Option Value) (CN CG : Addr) : Prop extends NBt K mg CN where
  gG : mg "GateError" = some (.ref CG)
  te : PySem.W.exmOne K (.ref CN) (.ref CG) = some true
  exc : ExcC K CN
  kN : PySem.W.kitOne K (.ref CN) (.ref CN) = some true
open Classical in
noncomputable def tsE (K : PySem.W.Frag) (CN : Addr) (a : Addr) (cls : Value) (d : Option Addr) : TS := if cls = .ref CN ∧ d = none then tAsg (tCB (rIsE K CN a) (tCons (tVar 3) (tCons (tC (.ref CN)) tNil))) (gName 4) else tNever
theorem suiteIs {X : Cx} {CN a : Addr} {oe : Obj} {cls : Value} {d : Option Addr} {pn : List (Addr × Obj)} {px pf pN p0 p1 pos : Pos} {xe xf : Str} (N : NBt X.K X.mg CN) (hE : ExcC X.K CN) (T : Blt X.mg) (hz : Zc cls d oe) (hf : ∃ vs, oe.data = .fields vs) (hN3 : X.N[3]? = some xe) (hN4 : X.N[4]? = some xf) (nd : X.N.Nodup) (v3 : X.env.scope.names.lookup xe = some .local) (v4 : Loc X.env.scope xf) (g1 : Gl X "isinstance") (g2 : Gl X "NoBound")
    (hd : (xe == ("__debug__" : Str)) = false := by decide) (hcd : (xe == ("__classdict__" : Str)) = false := by decide) (hlx : X.env.scope.names.lookup xf = some .local := by rfl) (hsw : swapsWith (.Call (.Name "isinstance" pf) [.Name xe px, .Name "NoBound" pN] [] p0) (some (.Name xf p1)) pos.line X.env = pure false := by rfl) :
    PSs (X.suite a ((a, oe) :: pn)) [.Assign [.Name xf p1] (.Call (.Name "isinstance" pf) [.Name xe px, .Name "NoBound" pN] [] p0) pos] (tsE X.K CN a cls d) := by
  by_cases h : cls = .ref CN ∧ d = none
  · unfold tsE
    rw [if_pos h]
    obtain ⟨rfl, rfl⟩ := h
    exact pss_one (ps_set (X := X.suite a ((a, oe) :: pn)) nd hN4 v4 (pe_callB (call_isE hE hz hf) g1 T.b_isinstance boot_isinstance (pa_cons (pe_var hN3 (Or.inl v3) hd hcd) (pa_cons (pe_glob g2 N.gP rfl) pa_nil))) hsw (Or.inr hlx))
  · unfold tsE
    rw [if_neg h]
    exact pss_never
def goodB (way : Int) (x y : V) : Bool := if way = 0 then inR x 1 1000000000000000 && inR y 0 1000000000 else inR x 1 1000000000000000 && inR y 1 1000000000000
def BAt (cJ cW : Addr) (way : Int) (x y : V) (b : Addr) (H : Hp) : Prop := ∃ (s f : Int) (dx : Addr), x = .int s ∧ y = .int f ∧ ((way = 0 ∧ H b = some (.ins cJ dx (fJar s f))) ∨ (way ≠ 0 ∧ H b = some (.ins cW dx (fWin s f))))
def RBo (K : PySem.W.Frag) (cJ cW : Addr) (vs : List V) (H : Hp) (W : V → Hp → Prop) : Prop := ∃ way x y, vs = [.int way, x, y] ∧ Kd K H x ∧ Kd K H y ∧ W = fun v H2 => (goodB way x y = true ∧ ∃ b, v = .ref b ∧ BAt cJ cW way x y b H2) ∨ (goodB way x y = false ∧ v = .bl true)
section
variable {P : Program} {w : World} {K : PySem.W.Frag} {mg : Str → Option Value} {base : Heap} {cJ cW CN CG : Addr}
theorem cal_Lbound_of {f fJ fW : Addr} {fd fdJ fdW : FuncData} (T : Blt mg) (N : NBx K mg CN CG) (MJ : Mk K cJ fJ) (FJ : FnOk P w K mg base (L2.CX P w) 2 fJ fdJ ["self", "size", "flow"] (spBX K cJ CN 1 1000000000000000 0 1000000000 fJar)) (mgJ : mg "Jar" = some (.ref cJ)) (bJ : Binds K fdJ ["self", "size", "flow"] [])
    (MW : Mk K cW fW) (FW : FnOk P w K mg base (L2.CX P w) 2 fW fdW ["self", "most", "span"] (spBX K cW CN 1 1000000000000000 1 1000000000000 fWin)) (mgW : mg "Window" = some (.ref cW)) (bW : Binds K fdW ["self", "most", "span"] []) (F : C8.Def K mg "_law_bound_of" s_Lbound_of f fd) (b : Binds K fd ["_law_way", "_law_one", "_law_other"] []) : C8.Cal P w K mg base 4 "_law_bound_of" (spW (RBo K cJ cW)) [] := by
  refine calW F b sc_Lbound_of (fun vs H v h => ?_) (fun cdv A outer s H vs W E hr h => ?_)
  · obtain ⟨way, x, y, rfl, _⟩ := h
    rfl
  · obtain ⟨way, x, y, rfl, kx, ky, rfl⟩ := h
    refine ⟨_, (pss_cons (ps_try_as (i := 3) (tb := fun W => tSeq (tIfS (tTest (tOp rEq (tVar 0) (tC (.int 0)))) (tRet (tMakeS cJ (spBX K cJ CN 1 1000000000000000 0 1000000000 fJar) (WE W) (tCons (tVar 1) (tCons (tVar 2) tNil)))) tNext) (tRet (tMakeS cW (spBX K cW CN 1 1000000000000000 1 1000000000000 fWin) (WE W) (tCons (tVar 1) (tCons (tVar 2) tNil))))) (ts := tsE K CN) (Wout := fun _ _ _ _ => False) rfl rfl sc_Lbound_of.nd rfl rfl ⟨rfl, by decide, Or.inl N.gG⟩ takes0
      (fun W pn xe tk _ => pss_cons (ps_if (pt_cmpR op_eq (pv 0) pe_int (nomark _)) (pss_one (ps_ret (by exact (pe_makeS MJ FJ (hr.mono (by decide)) rfl mgJ bJ (fun σ => passAt tk σ) (pa_cons (pv 1) (pa_cons (pv 2) pa_nil)))))) pss_nil) (pss_one (ps_ret (by exact (pe_makeS MW FW (hr.mono (by decide)) rfl mgW bW (fun σ => passAt tk σ) (pa_cons (pv 1) (pa_cons (pv 2) pa_nil)))))))
      (fun a oe cls d pn hz hf => suiteIs N.toNBt N.exc T hz hf rfl rfl sc_Lbound_of.nd rfl (Or.inl rfl) rfl rfl))
  (pss_one (ps_ret (pv 4)))), ?_⟩
    intro H1 e1 D q
    have grow : ∀ {H2 : Hp} {a dx C : Addr}, H2 a = none → H2 dx = none → Ex H2 (upd (upd H2 dx (.own a)) a (.ins C dx [])) := fun {H2 a dx C} na nd b o hb => by
      rw [upd_ne (ne_of_none hb na), upd_ne (ne_of_none hb nd)]
      exact hb
    have back : ∀ {H2 H3 : Hp} {a dx C : Addr}, H2 a = none → H2 dx = none → (∀ c o, c ≠ a → upd (upd H2 dx (.own a)) a (.ins C dx []) c = some o → H3 c = some o) → Ex H2 H3 := fun {H2 H3 a dx C} na nd k b o hb => k b o (ne_of_none hb na) (grow na nd b o hb)
    have bad : goodB way x y = false → ∀ H3, Ex H1 H3 → WE (wAs K (.ref CG) 3 (tsE K CN) (fun _ _ _ _ => False) { D with nx := tRet (tVar 4) D }) (start ["_law_way", "_law_one", "_law_other"] [.int way, x, y] ++ [none, none]) (.ref CN) none H3 := fun hg H3 e3 => by
      refine ⟨true, N.te, fun _ a na => ?_, fun z => by cases z⟩
      show tsE K CN a (.ref CN) none _ _ _
      unfold tsE
      rw [if_pos ⟨rfl, rfl⟩]
      exact ⟨.ref a, rfl, .ref CN, .ref CN, true, rfl, fun u r => r, N.kN, .bl true, rfl, q _ H3 e3 (.inr ⟨hg, rfl⟩)⟩
    by_cases hw : way = 0
    · subst hw
      have gd : goodB 0 x y = (inR x 1 1000000000000000 && inR y 0 1000000000) := if_pos rfl
      refine q_when (D := { D with nx := tRet (tVar 4) D }) (b := true) (et_test (ev_op (ev_var (v := .int 0) rfl) ev_c (rv_eq rfl))) (fun _ H2 e2 => ?_) fun z => by cases z
      refine ⟨_, rfl, _, rfl, fun a dx na nd ne => ?_⟩
      refine ⟨a, dx, x, y, rfl, upd_same, kx.mono ((e1.trans e2).trans (grow na nd)), ky.mono ((e1.trans e2).trans (grow na nd)), fun s f hx hy hg H3 keep hh => ⟨rfl, q _ H3 (e2.trans (back na nd keep)) (.inl ⟨by rw [gd]; exact hg, a, rfl, s, f, dx, hx, hy, .inl ⟨rfl, hh⟩⟩)⟩, fun hg H3 e3 => ?_⟩
      exact bad (by rw [gd]; exact hg) H3 ((e2.trans (grow na nd)).trans e3)
    · have gd : goodB way x y = (inR x 1 1000000000000000 && inR y 1 1000000000000) := if_neg hw
      refine q_when (D := { D with nx := tRet (tVar 4) D }) (b := false) (et_is (et_test (ev_op (ev_var (v := .int way) rfl) ev_c (rv_eq rfl))) (decide_eq_false fun z => hw (by cases z; rfl))) (fun z => by cases z) fun _ H2 e2 => ?_
      refine ⟨_, rfl, _, rfl, fun a dx na nd ne => ?_⟩
      refine ⟨a, dx, x, y, rfl, upd_same, kx.mono ((e1.trans e2).trans (grow na nd)), ky.mono ((e1.trans e2).trans (grow na nd)), fun s f hx hy hg H3 keep hh => ⟨rfl, q _ H3 (e2.trans (back na nd keep)) (.inl ⟨by rw [gd]; exact hg, a, rfl, s, f, dx, hx, hy, .inr ⟨hw, hh⟩⟩)⟩, fun hg H3 e3 => ?_⟩
      exact bad (by rw [gd]; exact hg) H3 ((e2.trans (grow na nd)).trans e3)
end
theorem rt_seqL {te : TE} {u : TS} {σ : L2.St} {H : Hp} {xs : List V} {v : V} {i : Nat} (h : EvL te σ H xs) (k : ∀ p H1, Ex H H1 → H1 p = some (.lst xs) → Rt u (σ.set i (some (.ref p))) H1 v) : Rt (tSeq (tAsg te (gName i)) u) σ H v := fun H1 e D q =>
  h H1 e _ fun p H2 np e2 hp => k p H2 (e.trans e2) hp H2 (Ex.refl H2) D fun H3 e3 => q H3 (e2.trans e3)
def numberV (c m : Int) : Int := ([c / 9 % 100, m, m + 1, 1, 0, -1, c * 999331 % m, m - 1, -c / 9] : List Int).getD (c % 9).toNat 0
def ROdd (K : PySem.W.Frag) (vs : List V) (_ : Hp) (W : V → Hp → Prop) : Prop := ∃ c, vs = [.int c] ∧ 0 ≤ c ∧ W = fun v H2 => NoInt K H2 v ∧ ∀ i, v ≠ .int i
def RNum (vs : List V) (_ : Hp) (v : V) : Prop := ∃ c m, vs = [.int c, .int m] ∧ 0 ≤ c ∧ c < 2147483648 ∧ 0 < m ∧ v = .int (numberV c m)
def RGood (K : PySem.W.Frag) (vs : List V) (H : Hp) (v : V) : Prop := ∃ x y m l, vs = [x, y, .int m, .int l] ∧ Kd K H x ∧ Kd K H y ∧ v = .bl (inR x 1 1000000000000000 && inR y l m)
def isI : V → Bool
  | .int _ => true
  | _ => false
section
variable {P : Program} {w : World} {K : PySem.W.Frag} {mg : Str → Option Value} {base : Heap}
theorem cal_Lnumber {f : Addr} {fd : FuncData} (F : C8.Def K mg "_law_number" s_Lnumber f fd) (b : Binds K fd ["_law_cell_here", "_law_most"] []) : C8.Cal P w K mg base 1 "_law_number" (spF RNum) [] := by
  refine calF F b sc_Lnumber (fun vs H v h => ?_) (fun cdv A outer s H vs v E hr h => ?_)
  · obtain ⟨c, m, rfl, _⟩ := h
    rfl
  · obtain ⟨c, m, rfl, h0, h2, hm, rfl⟩ := h
    refine ⟨_, (pss_cons (ps_set (i := 2) sc_Lnumber.nd rfl (Or.inl rfl) (pe_lst (pa_cons (pe_op op_mod (pe_op op_fdiv (pv 0) pe_int) pe_int) (pa_cons (pv 1) (pa_cons (pe_op op_add (pv 1) pe_int) (pa_cons pe_int (pa_cons pe_int (pa_cons (pe_un un_neg pe_int) (pa_cons (pe_op op_mod (pe_op op_mul (pv 0) pe_int) (pv 1)) (pa_cons (pe_op op_sub (pv 1) pe_int) (pa_cons (pe_op op_fdiv (pe_un un_neg (pv 0)) pe_int) pa_nil)))))))))))
  (pss_one (ps_ret (pe_ix ix_list (pv 2) (pe_op op_mod (pv 0) pe_int) (fun _ _ => rfl))))), ?_⟩
    refine rt_seqL (xs := [.int (c / 9 % 100), .int m, .int (m + 1), .int 1, .int 0, .int (-1), .int (c * 999331 % m), .int (m - 1), .int (-c / 9)]) (by walk_at "tk_ev") fun p H1 e hp => ?_
    unfold numberV
    have hS : SqL K H1 p [.int (c / 9 % 100), .int m, .int (m + 1), .int 1, .int 0, .int (-1), .int (c * 999331 % m), .int (m - 1), .int (-c / 9)] := sq_of hp
    exact rt_ret (ev_ixL (ev_var rfl) (ev_op (ev_var rfl) ev_c (rv_I (by decide))) hS (atI_disp (.cons (.cons (.cons (.cons (.cons (.cons (.cons (.cons (.cons .nil))))))))) (by omega) (by simp only [List.length_cons, List.length_nil]; omega)))
theorem cal_Lodd {f : Addr} {fd : FuncData} (F : C8.Def K mg "_law_odd" s_Lodd f fd) (b : Binds K fd ["_law_cell_here"] []) : C8.Cal P w K mg base 1 "_law_odd" (spW (ROdd K)) [] := by
  refine calW F b sc_Lodd (fun vs H v h => ?_) (fun cdv A outer s H vs W E hr h => ?_)
  · obtain ⟨c, rfl, _⟩ := h
    rfl
  · obtain ⟨c, rfl, h0, rfl⟩ := h
    refine ⟨_, (pss_one (ps_ret (pe_ix ix_list (pe_lst (pa_cons pe_non (pa_cons pe_bl (pa_cons pe_bl (pa_cons pe_str (pa_cons (pe_tup (pa_cons pe_int pa_nil)) (pa_cons (pe_lst (pa_cons pe_int pa_nil)) (pa_cons pe_dnewK (pa_cons pe_str (pa_cons pe_str pa_nil)))))))))) (pe_op op_mod (pv 0) pe_int) (fun _ _ => rfl)))), ?_⟩
    intro H1 e1 D q
    refine ⟨by decide, fun p hp => ?_⟩
    refine ⟨by decide, fun l hl => ?_⟩
    intro d hd
    refine ⟨by show 9 ≤ sizeLine; decide, fun o ho => ?_⟩
    have g1 := Ex.new (o := .tup [V.int 3]) hp
    have g2 := Ex.new (o := .lst [V.int 2]) hl
    have g3 := Ex.new (o := .dK []) hd
    have g4 := Ex.new (o := .lst [V.non, .bl true, .bl false, .str "5", .ref p, .ref l, .ref d, .str "", .str "x"]) ho
    have g := ((g1.trans g2).trans g3).trans g4
    have hc : c % 9 = 0 ∨ c % 9 = 1 ∨ c % 9 = 2 ∨ c % 9 = 3 ∨ c % 9 = 4 ∨ c % 9 = 5 ∨ c % 9 = 6 ∨ c % 9 = 7 ∨ c % 9 = 8 := by omega
    refine ⟨_, rfl, _, _, rfl, rfl, (by show (0 : Int) < 9; decide), ?_⟩
    refine ⟨o, _, c % 9, (match c % 9 with | 0 => V.non | 1 => .bl true | 2 => .bl false | 3 => .str "5" | 4 => .ref p | 5 => .ref l | 6 => .ref d | 7 => .str "" | _ => .str "x"), rfl, rfl, sq_of upd_same, ?_, q _ _ g ?_⟩
    · rcases hc with h | h | h | h | h | h | h | h | h <;> rw [h] <;> rfl
    · have st : ∀ z : Str, NoInt K (upd (upd (upd (upd H1 p (.tup [V.int 3])) l (.lst [V.int 2])) d (.dK [])) o (.lst [V.non, .bl true, .bl false, .str "5", .ref p, .ref l, .ref d, .str "", .str "x"])) (.str z) := fun z => .inr ⟨"str", fun _ _ => .base (.str z), by decide +kernel⟩
      rcases hc with h | h | h | h | h | h | h | h | h <;> rw [h]
      · exact ⟨.inr ⟨"NoneType", fun _ _ => .base .non, by decide +kernel⟩, fun i z => by cases z⟩
      · exact ⟨.inl ⟨true, rfl⟩, fun i z => by cases z⟩
      · exact ⟨.inl ⟨false, rfl⟩, fun i z => by cases z⟩
      · exact ⟨st _, fun i z => by cases z⟩
      · exact ⟨.inr ⟨"tuple", fun H2 e2 => .base (.tup (e2 _ _ (g4 _ _ (g3 _ _ (g2 _ _ upd_same))))), by decide +kernel⟩, fun i z => by cases z⟩
      · exact ⟨.inr ⟨"list", fun H2 e2 => .base (.lst (e2 _ _ (g4 _ _ (g3 _ _ upd_same)))), by decide +kernel⟩, fun i z => by cases z⟩
      · exact ⟨.inr ⟨"dict", fun H2 e2 => .base (.dK (e2 _ _ (g4 _ _ upd_same))), by decide +kernel⟩, fun i z => by cases z⟩
      · exact ⟨st _, fun i z => by cases z⟩
      · exact ⟨st _, fun i z => by cases z⟩
theorem noI {x : V} {H : Hp} (h : Kd K H x) : isI x = true ↔ ∃ i, x = .int i := by
  rcases h with ⟨i, rfl⟩ | ⟨_, h⟩
  · exact ⟨fun _ => ⟨i, rfl⟩, fun _ => rfl⟩
  · refine ⟨fun z => ?_, fun ⟨i, e⟩ => absurd e (h i)⟩
    cases x <;> first | (cases z; done) | exact absurd rfl (h _)
theorem cal_Lgood {f : Addr} {fd : FuncData} (T : Blt mg) (F : C8.Def K mg "_law_good" s_Lgood f fd) (b : Binds K fd ["_law_one", "_law_other", "_law_most", "_law_least"] []) : C8.Cal P w K mg base 1 "_law_good" (spF (RGood K)) [] := by
  refine calF F b sc_Lgood (fun vs H v h => ?_) (fun cdv A outer s H vs v E hr h => ?_)
  · obtain ⟨x, y, m, l, rfl, _⟩ := h
    rfl
  · obtain ⟨x, y, m, l, rfl, kx, ky, rfl⟩ := h
    refine ⟨_, (pss_cons (ps_for PassesOwn.never rfl (pi_tup (pe_tup (pa_cons (pv 0) (pa_cons (pv 1) pa_nil)))) (pg_name (i := 4) sc_Lgood.nd rfl (Or.inl rfl))
    (pss_one (ps_if (PW.pt (pw_or (pt_not (pt_val (pe_callB call_isi (by rfl) T.b_isinstance boot_isinstance (pa_cons (pv 4) (pa_cons (pe_bltn (v := .ty "int") (by rfl) T.b_int boot_int rfl) pa_nil))))) (pw_or1 (pt_val (pe_callB call_isi (by rfl) T.b_isinstance boot_isinstance (pa_cons (pv 4) (pa_cons (pe_bltn (v := .ty "bool") (by rfl) T.b_bool boot_bool rfl) pa_nil)))))))
      (pss_one (ps_ret pe_bl))
      pss_nil)))
  (pss_one (ps_ret (pe_and (pe_chain op_le op_le pe_int (pv 0) (pe_op op_pow pe_int pe_int)) (pe_one (pe_chain op_le op_le (pv 3) (pv 1) (pv 2))))))), ?_⟩
    have tst : ∀ {σ : L2.St} {z : V}, Kd K H z → σ[4]? = some (some z) → EvT (tOr (tNot (tB (tCB (rIsi K) (tCons (tVar 4) (tCons (tC (.ty "int")) tNil))))) (tB (tCB (rIsi K) (tCons (tVar 4) (tCons (tC (.ty "bool")) tNil))))) σ H (!isI z) := fun hz hs => by
      rcases hz with ⟨i, rfl⟩ | ⟨⟨q, rfl⟩ | ⟨n, hn, hk⟩, hz⟩
      · exact et_or (a := false) (b := false) (et_not (a := true) (et_B (ev_isi (ev_var hs) ev_c (.ty "int") (tyi i) kii))) fun _ => et_B (ev_isi (ev_var hs) ev_c (.ty "bool") (tyi i) kib)
      · exact et_or (a := false) (b := true) (et_not (a := true) (et_B (ev_isi (ev_var hs) ev_c (.ty "int") (tyb q) kbi))) fun _ => et_B (ev_isi (ev_var hs) ev_c (.ty "bool") (tyb q) kbb)
      · rename_i z
        have e : isI z = false := by cases z <;> first | rfl | exact absurd rfl (hz _)
        rw [e]
        exact et_or (a := true) (b := true) (et_not (a := false) (et_B (ev_isi (ev_var hs) ev_c (.ty "int") hn (kit_ty hk)))) fun z => by cases z
    have kk : ∀ i, i < 2 → Kd K H ([x, y].getD i .non) := fun i hi => by
      cases i with
      | zero => exact kx
      | succ i => cases i with
        | zero => exact ky
        | succ i => omega
    let S : Unit → Nat → L2.St := fun _ i => [some x, some y, some (.int m), some (.int l), match i with | 0 => none | i + 1 => some ([x, y].getD i .non)]
    refine Rt.at (σ' := S () 0) ?_ rfl
    refine rt_for_opt (items := fun i => [x, y].getD i .non) (n := 2) (v0 := .bl false) (st0 := ()) (fun i _ => if isI ([x, y].getD i .non) = true then some () else none) S (fun _ _ => True) True.intro (ei_tN .non (eu_tup (ea_cons (ev_var rfl) (ea_cons (ev_var rfl) ea_nil)) (by simp only [List.length_cons, List.length_nil]; omega))) (fun i st st' hi _ ht => ⟨gnx_name ?_, True.intro⟩) (fun i st hi _ ht => grt_name ?_) (fun st _ hst => ?_) (fun hst => ?_)
    · have hz : isI ([x, y].getD i .non) = true := by
        by_cases e : isI ([x, y].getD i .non) = true
        · exact e
        · rw [if_neg e] at ht
          cases ht
      refine nx_if (b := false) (et_is (tst (kk i hi) rfl) (by rw [hz]; rfl)) (fun z => by cases z) fun _ => nx_next
    · have hz : isI ([x, y].getD i .non) = false := by
        cases e : isI ([x, y].getD i .non) with
        | false => rfl
        | true =>
          rw [if_pos e] at ht
          cases ht
      refine rt_if (b := true) (et_is (tst (kk i hi) rfl) (by rw [hz]; rfl)) (fun _ => rt_ret ev_c) fun z => by cases z
    · have hx : isI x = true := by
        cases e : isI x with
        | true => rfl
        | false =>
          have z : runN (fun i (_ : Unit) => if isI ([x, y].getD i .non) = true then some () else none) 2 0 () = none := by
            simp [runN, e]
          rw [z] at hst
          cases hst
      have hy : isI y = true := by
        cases e : isI y with
        | true => rfl
        | false =>
          have z : runN (fun i (_ : Unit) => if isI ([x, y].getD i .non) = true then some () else none) 2 0 () = none := by
            simp [runN, e, hx]
          rw [z] at hst
          cases hst
      obtain ⟨i, rfl⟩ := (noI kx).mp hx
      obtain ⟨j, rfl⟩ := (noI ky).mp hy
      refine rt_ret (ev_andV (a := decide (1 ≤ i) && decide (i ≤ 1000000000000000)) (b := decide (l ≤ j) && decide (j ≤ m)) (ev_chain ev_c (ev_var rfl) rv_I0 (fun _ => ev_op ev_c ev_c (rv_I ⟨by decide, by decide, by decide⟩)) fun _ => rv_I0) fun _ => ev_chain (ev_var rfl) (ev_var rfl) rv_I0 (fun _ => ev_var rfl) fun _ => rv_I0)
    · have z : (inR x 1 1000000000000000 && inR y l m) = false := by
        cases e : isI x with
        | false =>
          rw [inR_no (fun i h => by rw [h] at e; cases e), Bool.false_and]
        | true =>
          cases e2 : isI y with
          | false => rw [inR_no (x := y) (fun i h => by rw [h] at e2; cases e2), Bool.and_false]
          | true =>
            have z : runN (fun i (_ : Unit) => if isI ([x, y].getD i .non) = true then some () else none) 2 0 () = some () := by
              simp [runN, e, e2]
            rw [z] at hst
            cases hst
      rw [z]
end
/-! the law's comparison of two answers -/
def RSame (vs : List V) (_ : Hp) (v : V) : Prop := ∃ a b : Option Int, vs = [opV a, opV b] ∧ v = .bl (decide (a = b))
theorem rSame {H : Hp} (a b : Option Int) : ∀ H1, Ex H H1 → RSame [opV a, opV b] H1 (.bl (decide (a = b))) := fun _ _ => ⟨a, b, rfl, rfl⟩
theorem kni {K : PySem.W.Frag} : PySem.W.kitOne K (.type "NoneType") (.type "int") = some false := kit_ty (by decide +kernel)
section
variable {P : Program} {w : World} {K : PySem.W.Frag} {mg : Str → Option Value} {base : Heap}
theorem cal_Lsame {f : Addr} {fd : FuncData} (T : Blt mg) (F : C8.Def K mg "_law_same" s_Lsame f fd) (b : Binds K fd ["_law_found", "_law_due"] []) : C8.Cal P w K mg base 1 "_law_same" (spF RSame) [] := by
  refine calF F b sc_Lsame (fun vs H v h => ?_) (fun cdv A outer s H vs v E hr h => ?_)
  · obtain ⟨x, y, rfl, _⟩ := h
    rfl
  · obtain ⟨x, y, rfl, rfl⟩ := h
    refine ⟨_, (pss_cons (ps_if (pt_cmp (pc_isN (pv 1)))
    (pss_one (ps_ret (pe_cmp (pc_isN (pv 0)) rfl)))
    pss_nil)
  (pss_one (ps_ret (pe_and (pe_callB call_isi (by rfl) T.b_isinstance boot_isinstance (pa_cons (pv 0) (pa_cons (pe_bltn (v := .ty "int") (by rfl) T.b_int boot_int rfl) pa_nil))) (pe_and (pe_not (pe_callB call_isi (by rfl) T.b_isinstance boot_isinstance (pa_cons (pv 0) (pa_cons (pe_bltn (v := .ty "bool") (by rfl) T.b_bool boot_bool rfl) pa_nil)))) (pe_one (pe_cmpR op_eq (pv 0) (pv 1) (nomark _)))))))), ?_⟩
    cases y with
    | none =>
      refine rt_ifseq (b := true) (et_B (ev_isN (ev_var (v := .non) rfl))) (fun _ => ?_) fun z => by cases z
      refine rt_ret (ev_is (ev_isN (ev_var (v := opV x) rfl)) ?_)
      cases x <;> rfl
    | some y =>
      refine rt_ifseq (b := false) (et_B (ev_isN (ev_var (v := .int y) rfl))) (fun z => by cases z) fun _ => ?_
      cases x with
      | none => exact rt_ret (ev_andV (a := false) (b := false) (ev_isi (ev_var (v := .non) rfl) ev_c (.ty "int") (fun _ _ => .base .non) kni) fun z => by cases z)
      | some x =>
        refine rt_ret (ev_is (ev_andV (a := true) (b := decide (V.int x = V.int y)) (ev_isi (ev_var (v := .int x) rfl) ev_c (.ty "int") (tyi x) kii) fun _ => ev_is (ev_andV (a := true) (b := decide (V.int x = V.int y)) (ev_notV (a := false) (ev_isi (ev_var (v := .int x) rfl) ev_c (.ty "bool") (tyi x) kib)) fun _ => ev_op (ev_var (v := .int x) rfl) (ev_var (v := .int y) rfl) (rv_eq rfl)) (by rw [Bool.true_and])) ?_)
        rw [Bool.true_and]
        exact congrArg V.bl (decide_eq_decide.mpr ⟨fun h => by cases h; rfl, fun h => by cases h; rfl⟩)
end
/-! the law's look at the rooms -/
def RRooms (cJ cW : Addr) (vs : List V) (H : Hp) (v : V) : Prop := ∃ b way o t c, vs = [.ref b, .int way, .int o, .int t, .int c] ∧ BAt cJ cW way (.int o) (.int t) b H ∧ (way = 0 ∨ way = 1) ∧ 0 ≤ t ∧ t ≤ 1000000000000 ∧ (way = 0 → t ≤ 1000000000) ∧ 0 ≤ c ∧ c < 2147483648 ∧ v = .bl true
def dueR (way o t l : Int) : Option Int := if way = 0 then some (o + t * l) else if l < t then some o else none
section
variable {P : Program} {w : World} {K : PySem.W.Frag} {mg : Str → Option Value} {base : Heap} {cJ cW : Addr}
theorem cal_Lrooms {f : Addr} {fd : FuncData} (T : Blt mg) (t_Jar_room : C8.Met P w K mg base 1 cJ "room" (spF (RRoomJ cJ)) []) (t_Window_room : C8.Met P w K mg base 1 cW "room" (spF (RRoomW cW)) []) (c_Lsame : C8.Cal P w K mg base 1 "_law_same" (spF RSame) [])
    (F : C8.Def K mg "_law_rooms" s_Lrooms f fd) (b : Binds K fd ["_law_bound", "_law_way", "_law_one", "_law_other", "_law_cell_here"] []) : C8.Cal P w K mg base 2 "_law_rooms" (spF (RRooms cJ cW)) [] := by
  refine calF F b sc_Lrooms (fun vs H v h => ?_) (fun cdv A outer s H vs v E hr h => ?_)
  · obtain ⟨b, way, o, t, c, rfl, _⟩ := h
    rfl
  · obtain ⟨b, way, o, t, c, rfl, hb, hway, t0, t1, tj, c0, c1, rfl⟩ := h
    have its : ∀ i, i < 7 → ∃ n, ([.int 0, .int 1, .int (t - 1), .int t, .int (t + 1), .int (c % 50), .int (c % 10 ^ Int.toNat 6)] : List V).getD i .non = .int n := fun i hi => match i, hi with
      | 0, _ => ⟨_, rfl⟩ | 1, _ => ⟨_, rfl⟩ | 2, _ => ⟨_, rfl⟩ | 3, _ => ⟨_, rfl⟩ | 4, _ => ⟨_, rfl⟩ | 5, _ => ⟨_, rfl⟩ | 6, _ => ⟨_, rfl⟩
      | n + 7, h => absurd h (by omega)
    have dueE : ∀ {σ : L2.St} {l : Int}, σ[1]? = some (some (.int way)) → σ[2]? = some (some (.int o)) → σ[3]? = some (some (.int t)) → σ[5]? = some (some (.int l)) → Ev (tOp (rIxL K) (tLst (tCons (tOp (rI0 fun i j => V.int (i + j)) (tVar 2) (tOp (rI CMul fun i j => V.int (i * j)) (tVar 3) (tVar 5))) (tCons (tOp (rIxL K) (tLst (tCons (tC .non) (tCons (tVar 2) tNil))) (tCB (fun xs H Q => (∃ i, xs = [.int i] ∧ Q (.int i) H) ∨ ∃ k, xs = [.bl k] ∧ Q (.int (if k then 1 else 0)) H) (tCons (tOp (rI0 fun i j => V.bl (decide (i < j))) (tVar 5) (tVar 3)) tNil))) tNil))) (tVar 1)) σ H (opV (dueR way o t l)) := fun {σ l} s1 s2 s3 s5 => by
      have inner : Ev (tOp (rIxL K) (tLst (tCons (tC .non) (tCons (tVar 2) tNil))) (tCB (fun xs H Q => (∃ i, xs = [.int i] ∧ Q (.int i) H) ∨ ∃ k, xs = [.bl k] ∧ Q (.int (if k then 1 else 0)) H) (tCons (tOp (rI0 fun i j => V.bl (decide (i < j))) (tVar 5) (tVar 3)) tNil))) σ H (opV (if l < t then some o else none)) := by
        refine ev_ixN (ea_cons ev_c (ea_cons (ev_var s2) ea_nil)) (ev_intB (ev_op (ev_var s5) (ev_var s3) rv_I0)) (by simp only [List.length_cons, List.length_nil]; omega) ?_
        by_cases h : l < t
        · rw [if_pos h, decide_eq_true h]
          rfl
        · rw [if_neg h, decide_eq_false h]
          rfl
      refine ev_ixN (ea_cons (ev_op (ev_var s2) (ev_op (ev_var s3) (ev_var s5) (rv_I (.inl ⟨by omega, by omega⟩))) rv_I0) (ea_cons inner ea_nil)) (ev_var s1) (by simp only [List.length_cons, List.length_nil]; omega) ?_
      unfold dueR
      rcases hway with rfl | rfl
      · rfl
      · rfl
    have go : ∀ (spR : List V → Hp → V → Prop) (C dx : Addr) (fs : List (Str × V)) (meth : ∀ a l, ∀ H1, Ex H H1 → spR [.ref b, .int a, .int (a + l)] H1 (opV (dueR way o t l))) (hx : H b = some (.ins C dx fs)) (hl : fs.lookup ("room" : Str) = none) (rest : TS) (hrest : ∀ σ, Rt rest σ H (.bl true)),
        Rt (tSeq (tFor (iTup K (tTup (tCons (tC (.int 0)) (tCons (tC (.int 1)) (tCons (tOp (rI0 fun i j => V.int (i - j)) (tVar 3) (tC (.int 1))) (tCons (tVar 3) (tCons (tOp (rI0 fun i j => V.int (i + j)) (tVar 3) (tC (.int 1))) (tCons (tOp (rI (fun _ j => 0 < j) fun i j => V.int (i % j)) (tVar 4) (tC (.int 50))) (tCons (tOp (rI (fun _ j => 0 < j) fun i j => V.int (i % j)) (tVar 4) (tOp (rI CPow fun i j => V.int (i ^ j.toNat)) (tC (.int 10)) (tC (.int 6)))) tNil))))))))) (gName 5)
          (tSeq (tAsg (tOp (rI (fun _ j => 0 < j) fun i j => V.int (i % j)) (tOp (rI CDiv fun i j => V.int (i / j)) (tVar 4) (tC (.int 7))) (tOp (rI CPow fun i j => V.int (i ^ j.toNat)) (tC (.int 10)) (tC (.int 6)))) (gName 6))
            (tIfS (tTest (tOp (rI0 fun i j => V.bl (decide (j ≤ i))) (tVar 5) (tC (.int 0))))
              (tSeq (tAsg (tOp (rIxL K) (tLst (tCons (tOp (rI0 fun i j => V.int (i + j)) (tVar 2) (tOp (rI CMul fun i j => V.int (i * j)) (tVar 3) (tVar 5))) (tCons (tOp (rIxL K) (tLst (tCons (tC .non) (tCons (tVar 2) tNil))) (tCB (fun xs H Q => (∃ i, xs = [.int i] ∧ Q (.int i) H) ∨ ∃ k, xs = [.bl k] ∧ Q (.int (if k then 1 else 0)) H) (tCons (tOp (rI0 fun i j => V.bl (decide (i < j))) (tVar 5) (tVar 3)) tNil))) tNil))) (tVar 1)) (gName 7))
                (tIfS (tNot (tB (tCall (spF RSame) [] C8.E0 (tCons (tMeth C "room" (spF spR) [] C8.E0 (tVar 0) (tCons (tVar 6) (tCons (tOp (rI0 fun i j => V.int (i + j)) (tVar 6) (tVar 5)) tNil))) (tCons (tVar 7) tNil))))) (tRet (tC (.bl false))) tNext)) tNext))) rest) [some (.ref b), some (.int way), some (.int o), some (.int t), some (.int c), none, none, none] H (.bl true) := fun spR C dx fs meth hx hl rest hrest => by
      refine rt_seqP (P := fun _ => True) (NxP.imp (nxp_for (items := fun i => ([.int 0, .int 1, .int (t - 1), .int t, .int (t + 1), .int (c % 50), .int (c % 10 ^ Int.toNat 6)] : List V).getD i .non) (n := 7) (fun _ σ => ∃ o1 o2 o3, σ = [some (.ref b), some (.int way), some (.int o), some (.int t), some (.int c), o1, o2, o3]) ⟨none, none, none, rfl⟩ (ei_tN .non ?_) fun i σ hi ⟨o1, o2, o3, hσ⟩ => gnxp_name ?_) fun _ _ => True.intro) fun σ _ => hrest σ
      · exact eu_tup (ea_cons ev_c (ea_cons ev_c (ea_cons (ev_op (ev_var rfl) ev_c rv_I0) (ea_cons (ev_var rfl) (ea_cons (ev_op (ev_var rfl) ev_c rv_I0) (ea_cons (ev_op (ev_var rfl) ev_c (rv_I (by decide))) (ea_cons (ev_op (ev_var rfl) (ev_op ev_c ev_c (rv_I ⟨by decide, by decide, by decide⟩)) (rv_I (by decide))) ea_nil))))))) (by simp only [List.length_cons, List.length_nil]; omega)
      · subst hσ
        obtain ⟨n, hn⟩ := its i hi
        rw [hn]
        refine nxp_seqP (nxp_of (P := fun σ => σ = [some (.ref b), some (.int way), some (.int o), some (.int t), some (.int c), some (.int n), some (.int (c / 7 % 10 ^ Int.toNat 6)), o3]) (nx_asg (ev_op (ev_op (ev_var rfl) ev_c (rv_I ⟨by decide, by decide⟩)) (ev_op ev_c ev_c (rv_I ⟨by decide, by decide, by decide⟩)) (rv_I (by decide)))) rfl) fun σ hσ => ?_
        subst hσ
        refine nxp_if (et_test (ev_op (ev_var rfl) ev_c rv_I0)) (fun _ => ?_) fun _ => nxp_of nx_next ⟨_, _, _, rfl⟩
        refine nxp_seqP (nxp_of (P := fun σ => σ = [some (.ref b), some (.int way), some (.int o), some (.int t), some (.int c), some (.int n), some (.int (c / 7 % 10 ^ Int.toNat 6)), some (opV (dueR way o t n))]) (nx_asg (dueE rfl rfl rfl rfl)) rfl) fun σ hσ => ?_
        subst hσ
        refine nxp_if (b := false) (et_not (a := true) (et_B (ev_is (ev_callF (ea_cons (ev_methF (ev_var rfl) hx hl (ea_cons (ev_var rfl) (ea_cons (ev_op (ev_var rfl) (ev_var rfl) rv_I0) ea_nil)) (meth _ n)) (ea_cons (ev_var rfl) ea_nil)) (rSame _ _)) (by rw [decide_eq_true rfl])))) (fun z => by cases z) fun _ => nxp_of nx_next ⟨_, _, _, rfl⟩
    obtain ⟨s', f', dx, h1, h2, hb⟩ := hb
    cases h1
    cases h2
    rcases hb with ⟨rfl, hb⟩ | ⟨hw, hb⟩
    · refine ⟨_, (pss_cons (ps_for PassesOwn.never rfl (pi_tup (pe_tup (pa_cons pe_int (pa_cons pe_int (pa_cons (pe_op op_sub (pv 3) pe_int) (pa_cons (pv 3) (pa_cons (pe_op op_add (pv 3) pe_int) (pa_cons (pe_op op_mod (pv 4) pe_int) (pa_cons (pe_op op_mod (pv 4) (pe_op op_pow pe_int pe_int)) pa_nil))))))))) (pg_name (i := 5) sc_Lrooms.nd rfl (Or.inl rfl))
    (pss_cons (ps_set (i := 6) sc_Lrooms.nd rfl (Or.inl rfl) (pe_op op_mod (pe_op op_fdiv (pv 4) pe_int) (pe_op op_pow pe_int pe_int)))
    (pss_one (ps_if (pt_cmpR op_ge (pv 5) pe_int (nomark _))
      (pss_cons (ps_set (i := 7) sc_Lrooms.nd rfl (Or.inl rfl) (pe_ix ix_list (pe_lst (pa_cons (pe_op op_add (pv 2) (pe_op op_mul (pv 3) (pv 5))) (pa_cons (pe_ix ix_list (pe_lst (pa_cons pe_non (pa_cons (pv 2) pa_nil))) (pe_callTy call_int1 (by rfl) T.b_int boot_int (pa_cons (pe_cmpR op_lt (pv 5) (pv 3) (nomark _)) pa_nil)) (fun _ _ => rfl)) pa_nil))) (pv 1) (fun _ _ => rfl)))
      (pss_one (ps_if (pt_not (pt_val (C8.pe_c c_Lsame hr (by decide) rfl (pa_cons (C8.pe_mt t_Jar_room hr (by decide) (pv 0) (pa_cons (pv 6) (pa_cons (pe_op op_add (pv 6) (pv 5)) pa_nil))) (pa_cons (pv 7) pa_nil)))))
        (pss_one (ps_ret pe_bl))
        pss_nil)))
      pss_nil))))
  (pss_one (ps_ret pe_bl))), ?_⟩
      refine go (RRoomJ cJ) cJ dx _ (fun a l H1 e => ⟨b, dx, o, t, a, a + l, rfl, e _ _ hb, t0, tj rfl, ?_⟩) hb rfl _ fun σ => rt_ret ev_c
      unfold dueR
      rw [if_pos rfl, show a + l - a = l by omega]
    · refine ⟨_, (pss_cons (ps_for PassesOwn.never rfl (pi_tup (pe_tup (pa_cons pe_int (pa_cons pe_int (pa_cons (pe_op op_sub (pv 3) pe_int) (pa_cons (pv 3) (pa_cons (pe_op op_add (pv 3) pe_int) (pa_cons (pe_op op_mod (pv 4) pe_int) (pa_cons (pe_op op_mod (pv 4) (pe_op op_pow pe_int pe_int)) pa_nil))))))))) (pg_name (i := 5) sc_Lrooms.nd rfl (Or.inl rfl))
    (pss_cons (ps_set (i := 6) sc_Lrooms.nd rfl (Or.inl rfl) (pe_op op_mod (pe_op op_fdiv (pv 4) pe_int) (pe_op op_pow pe_int pe_int)))
    (pss_one (ps_if (pt_cmpR op_ge (pv 5) pe_int (nomark _))
      (pss_cons (ps_set (i := 7) sc_Lrooms.nd rfl (Or.inl rfl) (pe_ix ix_list (pe_lst (pa_cons (pe_op op_add (pv 2) (pe_op op_mul (pv 3) (pv 5))) (pa_cons (pe_ix ix_list (pe_lst (pa_cons pe_non (pa_cons (pv 2) pa_nil))) (pe_callTy call_int1 (by rfl) T.b_int boot_int (pa_cons (pe_cmpR op_lt (pv 5) (pv 3) (nomark _)) pa_nil)) (fun _ _ => rfl)) pa_nil))) (pv 1) (fun _ _ => rfl)))
      (pss_one (ps_if (pt_not (pt_val (C8.pe_c c_Lsame hr (by decide) rfl (pa_cons (C8.pe_mt t_Window_room hr (by decide) (pv 0) (pa_cons (pv 6) (pa_cons (pe_op op_add (pv 6) (pv 5)) pa_nil))) (pa_cons (pv 7) pa_nil)))))
        (pss_one (ps_ret pe_bl))
        pss_nil)))
      pss_nil))))
  (pss_one (ps_ret pe_bl))), ?_⟩
      refine go (RRoomW cW) cW dx _ (fun a l H1 e => ⟨b, dx, o, t, a, a + l, rfl, e _ _ hb, ?_⟩) hb rfl _ fun σ => rt_ret ev_c
      unfold dueR
      rw [if_neg hw, show a + l - a = l by omega]
end
/-! the law -/
structure InsF (K : PySem.W.Frag) (C : Addr) : Prop where
  ha : PySem.W.findIn K (.ref C) "__class__" = some (some (.builtin "object.__class__"))
  hm : PySem.W.mroIn K C (.type "object") = some true
structure ClsG (K : PySem.W.Frag) (mg : Str → Option Value) (cB cJ cW : Addr) : Prop where
  c_Bound : mg "Bound" = some (.ref cB)
  c_Jar : mg "Jar" = some (.ref cJ)
  clJ : Cls K cJ
  clW : Cls K cW
  fJ : InsF K cJ
  fW : InsF K cW
  hn : PySem.W.specialIn K (.builtin "object.__class__") "__get__" = some (some (.builtin "getset_descriptor.__get__"))
  ht : PySem.W.takesIn K (.builtin "object.__class__") = some true
  jb : PySem.W.kitOne K (.ref cJ) (.ref cB) = some true
  wb : PySem.W.kitOne K (.ref cW) (.ref cB) = some true
  jj : PySem.W.kitOne K (.ref cJ) (.ref cJ) = some true
  wj : PySem.W.kitOne K (.ref cW) (.ref cJ) = some false
def spLaw (K : PySem.W.Frag) : Sp := fun vs H Q _ => ∃ (a : Addr) (ns : List Int), vs = [.ref a] ∧ SqL K H a (ns.map V.int) ∧ ns.length ≤ 63 ∧ ∀ H', Q (.bl true) H'
theorem rCell {K : PySem.W.Frag} {H : Hp} {a : Addr} {ns : List Int} {k : Int} (hS : SqL K H a (ns.map V.int)) (hl : ns.length ≤ 63) (hk : 0 ≤ k) : ∀ H1, Ex H H1 → RCell K [.ref a, .int k] H1 (.int (cellV ns k)) := fun H1 e => ⟨a, ns, k, rfl, ex_l e hS, hl, hk, rfl⟩
theorem EvW.go1 {te : TE} {σ : L2.St} {H : Hp} {W : V → Hp → Prop} {i : Nat} {D : Ends} (h : EvW te σ H W) (k : ∀ v H1, Ex H H1 → W v H1 → D.nx (σ.set i (some v)) H1) : tAsg te (gName i) D σ H := h H (Ex.refl H) _ k
theorem EvW.go {te : TE} {σ : L2.St} {H : Hp} {W : V → Hp → Prop} {i : Nat} {u : TS} {D : Ends} (h : EvW te σ H W) (k : ∀ v H1, Ex H H1 → W v H1 → u D (σ.set i (some v)) H1) : tSeq (tAsg te (gName i)) u D σ H := h H (Ex.refl H) _ k
section
variable {P : Program} {w : World} {K : PySem.W.Frag} {mg : Str → Option Value} {base : Heap} {cB cJ cW : Addr}
theorem ok_law {f : Addr} {fd : FuncData} (T : Blt mg) (G : ClsG K mg cB cJ cW) (F : C8.Fun K "law" "law" s_law f fd)
    (c_Lcell : C8.Cal P w K mg base 1 "_law_cell" (spF (RCell K)) []) (c_Lnumber : C8.Cal P w K mg base 1 "_law_number" (spF RNum) []) (c_Lodd : C8.Cal P w K mg base 1 "_law_odd" (spW (ROdd K)) []) (c_Lbound_of : C8.Cal P w K mg base 4 "_law_bound_of" (spW (RBo K cJ cW)) []) (c_Lgood : C8.Cal P w K mg base 1 "_law_good" (spF (RGood K)) [])
    (c_Lrooms : C8.Cal P w K mg base 2 "_law_rooms" (spF (RRooms cJ cW)) []) (p_size : Prp P w K mg base 1 cJ "size" (spF (RGet cJ "_size"))) (p_flow : Prp P w K mg base 1 cJ "flow" (spF (RGet cJ "_flow"))) (p_most : Prp P w K mg base 1 cW "most" (spF (RGet cW "_most"))) (p_span : Prp P w K mg base 1 cW "span" (spF (RGet cW "_span"))) : FnOk P w K mg base CX0 5 f fd ["_law_script"] (spLaw K) := by
  refine C8.fn0 F sc_law (fun vs H Q E h => ?_) (fun cdv A outer s H vs Q E hr h => ?_)
  · obtain ⟨a, ns, rfl, _⟩ := h
    rfl
  · obtain ⟨a, ns, rfl, hS, hl, q⟩ := h
    refine ⟨_, (pss_cons (ps_for PassesOwn.never rfl (pi_range1 rfl T.b_range (pa_cons (pe_callB (call_max2 rfl) (by rfl) T.b_max boot_max (pa_cons pe_int (pa_cons (pe_callB call_len_seq (by rfl) T.b_len boot_len (pa_cons (pv 0) pa_nil)) pa_nil))) pa_nil)) (pg_name (i := 1) sc_law.nd rfl (Or.inl rfl))
    (pss_cons (ps_set (i := 2) sc_law.nd rfl (Or.inl rfl) (C8.pe_c c_Lcell hr (by decide) rfl (pa_cons (pv 0) (pa_cons (pe_op op_mul pe_int (pv 1)) pa_nil))))
    (pss_cons (ps_set (i := 3) sc_law.nd rfl (Or.inl rfl) (pe_op op_mod (pv 2) pe_int))
    (pss_cons (ps_set (i := 4) sc_law.nd rfl (Or.inl rfl) (pe_ix ix_list (pe_lst (pa_cons (pe_op op_pow pe_int pe_int) (pa_cons (pe_op op_pow pe_int pe_int) pa_nil))) (pv 3) (fun _ _ => rfl)))
    (pss_cons (ps_set (i := 5) sc_law.nd rfl (Or.inl rfl) (C8.pe_c c_Lnumber hr (by decide) rfl (pa_cons (C8.pe_c c_Lcell hr (by decide) rfl (pa_cons (pv 0) (pa_cons (pe_op op_add (pe_op op_mul pe_int (pv 1)) pe_int) pa_nil))) (pa_cons (pe_op op_pow pe_int pe_int) pa_nil))))
    (pss_cons (ps_set (i := 6) sc_law.nd rfl (Or.inl rfl) (C8.pe_c c_Lnumber hr (by decide) rfl (pa_cons (C8.pe_c c_Lcell hr (by decide) rfl (pa_cons (pv 0) (pa_cons (pe_op op_add (pe_op op_mul pe_int (pv 1)) pe_int) pa_nil))) (pa_cons (pv 4) pa_nil))))
    (Evl.pss_cut (ps_if (pt_cmpR op_eq (pe_op op_mod (pe_op op_fdiv (pv 2) pe_int) pe_int) pe_int (nomark _))
      (pss_one (ps_set (i := 5) sc_law.nd rfl (Or.inl rfl) (C8.pe_c c_Lodd hr (by decide) rfl (pa_cons (pe_op op_fdiv (pv 2) pe_int) pa_nil))))
      pss_nil)
    (Evl.pss_cut (ps_if (pt_cmpR op_eq (pe_op op_mod (pe_op op_fdiv (pv 2) pe_int) pe_int) pe_int (nomark _))
      (pss_one (ps_set (i := 6) sc_law.nd rfl (Or.inl rfl) (C8.pe_c c_Lodd hr (by decide) rfl (pa_cons (pe_op op_fdiv (pv 2) pe_int) pa_nil))))
      pss_nil)
    (pss_cons (ps_set (i := 7) sc_law.nd rfl (Or.inl rfl) (C8.pe_c c_Lbound_of hr (by decide) rfl (pa_cons (pv 3) (pa_cons (pv 5) (pa_cons (pv 6) pa_nil)))))
    (pss_one (ps_if (pt_not (pt_val (C8.pe_c c_Lgood hr (by decide) rfl (pa_cons (pv 5) (pa_cons (pv 6) (pa_cons (pv 4) (pa_cons (pv 3) pa_nil)))))))
      (pss_one (ps_if (pt_cmpR op_notBl (pv 7) pe_bl (nomark _))
        (pss_one (ps_ret pe_bl))
        pss_nil))
      (pss_one (ps_if (PW.pt (pw_or (pt_not (pt_val (pe_callB call_isi (by rfl) T.b_isinstance boot_isinstance (pa_cons (pv 7) (pa_cons (pe_glob (v := .ref cB) rfl G.c_Bound rfl) pa_nil))))) (pw_or1 (pt_cmpR op_ne (pe_callB call_isi (by rfl) T.b_isinstance boot_isinstance (pa_cons (pv 7) (pa_cons (pe_glob (v := .ref cJ) rfl G.c_Jar rfl) pa_nil))) (pe_cmpR op_eq (pv 3) pe_int (nomark _)) (nomark _)))))
        (pss_one (ps_ret pe_bl))
        (pss_one (ps_if (PW.pt (pw_and (pt_cmpR op_eq (pv 3) pe_int (nomark _)) (pw_and1 (pt_cmpR (op_neD hr.units) (pe_tup (pa_cons (pe_pr p_size hr (by decide) (pv 7)) (pa_cons (pe_pr p_flow hr (by decide) (pv 7)) pa_nil))) (pe_tup (pa_cons (pv 5) (pa_cons (pv 6) pa_nil))) (nomark _)))))
          (pss_one (ps_ret pe_bl))
          (pss_one (ps_if (PW.pt (pw_and (pt_cmpR op_eq (pv 3) pe_int (nomark _)) (pw_and1 (pt_cmpR (op_neD hr.units) (pe_tup (pa_cons (pe_pr p_most hr (by decide) (pv 7)) (pa_cons (pe_pr p_span hr (by decide) (pv 7)) pa_nil))) (pe_tup (pa_cons (pv 5) (pa_cons (pv 6) pa_nil))) (nomark _)))))
            (pss_one (ps_ret pe_bl))
            (pss_one (ps_if (pt_not (pt_val (C8.pe_c c_Lrooms hr (by decide) rfl (pa_cons (pv 7) (pa_cons (pv 3) (pa_cons (pv 5) (pa_cons (pv 6) (pa_cons (C8.pe_c c_Lcell hr (by decide) rfl (pa_cons (pv 0) (pa_cons (pe_op op_add (pe_op op_mul pe_int (pv 1)) pe_int) pa_nil))) pa_nil))))))))
              (pss_one (ps_ret pe_bl))
              pss_nil)))))))))))))))))))
  (pss_one (ps_ret pe_bl))), ?_⟩
    have cellAt : ∀ {σ : L2.St} {H : Hp} {te : TE} {i : Int}, σ[0]? = some (some (.ref a)) → SqL K H a (ns.map V.int) → Ev te σ H (.int i) → 0 ≤ i → Ev (tCall (spF (RCell K)) [] C8.E0 (tCons (tVar 0) (tCons te tNil))) σ H (.int (cellV ns i)) := fun h0 hS he hi => ev_callF (ea_cons (ev_var h0) (ea_cons he ea_nil)) (rCell hS hl hi)
    refine q_forR1 (n := max 1 (ns.length : Int)) (ea_cons (ev_max ev_c (ev_lenI (K := K) (ev_var rfl) hS)) ea_nil) (by omega) (fun i σ' H' => ∃ o1 o2 o3 o4 o5 o6 o7, σ' = [some (.ref a), o1, o2, o3, o4, o5, o6, o7] ∧ SqL K H' a (ns.map V.int)) (fun H1 e1 => ⟨_, _, _, _, _, _, _, rfl, ex_l e1 hS⟩) (fun i σ H1 hi ⟨o1, o2, o3, o4, o5, o6, o7, hσ, hS⟩ => ?_) fun σ H1 ⟨o1, o2, o3, o4, o5, o6, o7, hσ, hS⟩ => s_ret ev_c fun H2 _ => q H2
    subst hσ
    have k0 := cellV_nn ns (5 * (i : Int))
    have k1 := cellV_lt ns (5 * (i : Int))
    have five : ∀ {σ : L2.St} {H : Hp}, σ[1]? = some (some (.int (i : Int))) → Ev (tOp (rI CMul fun i j => V.int (i * j)) (tC (.int 5)) (tVar 1)) σ H (.int (5 * (i : Int))) := fun h => ev_op ev_c (ev_var h) (rv_I (.inl ⟨by decide, by decide⟩))
    refine Nx.go (nx_asg (cellAt rfl hS (five rfl) (by omega))) fun H2 e2 => ?_
    replace hS := ex_l e2 hS
    refine Nx.go (nx_asg (v := .int (cellV ns (5 * (i : Int)) % 2)) (ev_op (ev_var rfl) ev_c (rv_I (by decide)))) fun H3 e3 => ?_
    replace hS := ex_l e3 hS
    have hway : cellV ns (5 * (i : Int)) % 2 = 0 ∨ cellV ns (5 * (i : Int)) % 2 = 1 := by omega
    have hmost : ∃ m, ([1000000000, 1000000000000] : List Int).getD (cellV ns (5 * (i : Int)) % 2).toNat 0 = m ∧ 0 < m ∧ m = (if cellV ns (5 * (i : Int)) % 2 = 0 then 1000000000 else 1000000000000) := by
      rcases hway with h | h <;> rw [h]
      · exact ⟨_, rfl, by decide, rfl⟩
      · exact ⟨_, rfl, by decide, rfl⟩
    obtain ⟨m, em, m0, m1⟩ := hmost
    refine Nx.go (nx_asg (v := .int m) (ev_is (ev_ixN (ea_cons (ev_op ev_c ev_c (rv_I ⟨by decide, by decide, by decide⟩)) (ea_cons (ev_op ev_c ev_c (rv_I ⟨by decide, by decide, by decide⟩)) ea_nil)) (ev_var rfl) (by simp only [List.length_cons, List.length_nil]; omega) (atI_disp (.cons (.cons .nil)) (by omega) (by simp only [List.length_cons, List.length_nil]; omega))) (congrArg V.int em))) fun H4 e4 => ?_
    replace hS := ex_l e4 hS
    refine Nx.go (nx_asg (v := .int (numberV (cellV ns (5 * (i : Int) + 1)) 1000000000000000)) (ev_callF (ea_cons (cellAt rfl hS (ev_op (five rfl) ev_c rv_I0) (by omega)) (ea_cons (ev_op ev_c ev_c (rv_I ⟨by decide, by decide, by decide⟩)) ea_nil)) fun H5 _ => ⟨_, _, rfl, cellV_nn ns _, by have := cellV_lt ns (5 * (i : Int) + 1); omega, by decide, rfl⟩)) fun H5 e5 => ?_
    replace hS := ex_l e5 hS
    refine Nx.go (nx_asg (v := .int (numberV (cellV ns (5 * (i : Int) + 2)) m)) (ev_callF (ea_cons (cellAt rfl hS (ev_op (five rfl) ev_c rv_I0) (by omega)) (ea_cons (ev_var rfl) ea_nil)) fun H6 _ => ⟨_, _, rfl, cellV_nn ns _, by have := cellV_lt ns (5 * (i : Int) + 2); omega, m0, rfl⟩)) fun H6 e6 => ?_
    replace hS := ex_l e6 hS
    -- odd things
    generalize hc : cellV ns (5 * (i : Int)) = c at *
    have odd : ∀ {σ : L2.St} {H : Hp}, σ[2]? = some (some (.int c)) → EvW (tCall (spW (ROdd K)) [] C8.E0 (tCons (tOp (rI CDiv fun i j => V.int (i / j)) (tVar 2) (tC (.int 10))) tNil)) σ H (fun v H2 => NoInt K H2 v ∧ ∀ i, v ≠ .int i) := fun h => evw_callW (ea_cons (ev_op (ev_var h) ev_c (rv_I ⟨by decide, by decide⟩)) ea_nil) fun H1 e => ⟨c / 10, rfl, by omega, rfl⟩
    refine ⟨fun σ' H' => ∃ x, σ' = [some (.ref a), some (.int (i : Int)), some (.int c), some (.int (c % 2)), some (.int m), some x, some (.int (numberV (cellV ns (5 * (i : Int) + 2)) m)), o7] ∧ SqL K H' a (ns.map V.int) ∧ Kd K H' x, ?_, fun σ' H7 ⟨x, hσ, hS, kx⟩ => ?_⟩
    · refine s_when (D := { nx := _, rt := Q, bk := _, ct := _ }) (et_test (ev_op (ev_op (ev_op (ev_var rfl) ev_c (rv_I ⟨by decide, by decide⟩)) ev_c (rv_I (by decide))) ev_c (rv_eq rfl))) (fun _ H7 e7 => ?_) fun _ H7 e7 => ⟨_, rfl, ex_l e7 hS, .inl ⟨_, rfl⟩⟩
      exact EvW.go1 (D := { nx := _, rt := Q, bk := _, ct := _ }) (odd rfl) fun v H8 e8 hv => ⟨v, rfl, ex_l (e7.trans e8) hS, .inr hv⟩
    subst hσ
    refine ⟨fun σ' H' => ∃ y, σ' = [some (.ref a), some (.int (i : Int)), some (.int c), some (.int (c % 2)), some (.int m), some x, some y, o7] ∧ SqL K H' a (ns.map V.int) ∧ Kd K H' x ∧ Kd K H' y, ?_, fun σ' H8 ⟨y, hσ, hS, kx, ky⟩ => ?_⟩
    · refine s_when (D := { nx := _, rt := Q, bk := _, ct := _ }) (et_test (ev_op (ev_op (ev_op (ev_var rfl) ev_c (rv_I ⟨by decide, by decide⟩)) ev_c (rv_I (by decide))) ev_c (rv_eq rfl))) (fun _ H8 e8 => ?_) fun _ H8 e8 => ⟨_, rfl, ex_l e8 hS, kx.mono e8, .inl ⟨_, rfl⟩⟩
      exact EvW.go1 (D := { nx := _, rt := Q, bk := _, ct := _ }) (odd rfl) fun v H9 e9 hv => ⟨v, rfl, ex_l (e8.trans e9) hS, kx.mono (e8.trans e9), .inr hv⟩
    subst hσ
    refine EvW.go (evw_callW (W := fun v H2 => (goodB (c % 2) x y = true ∧ ∃ b, v = .ref b ∧ BAt cJ cW (c % 2) x y b H2) ∨ (goodB (c % 2) x y = false ∧ v = .bl true)) (ea_cons (ev_var rfl) (ea_cons (ev_var rfl) (ea_cons (ev_var rfl) ea_nil))) fun H9 e9 => ⟨_, x, y, rfl, kx.mono e9, ky.mono e9, rfl⟩) fun v H9 e9 hv => ?_
    replace hS := ex_l e9 hS
    replace kx := kx.mono e9
    replace ky := ky.mono e9
    have gd : (inR x 1 1000000000000000 && inR y (c % 2) m) = goodB (c % 2) x y := by
      unfold goodB
      rcases hway with h | h <;> rw [h] at m1 ⊢ <;> rw [m1] <;> rfl
    have tg : EvT (tNot (tB (tCall (spF (RGood K)) [] C8.E0 (tCons (tVar 5) (tCons (tVar 6) (tCons (tVar 4) (tCons (tVar 3) tNil))))))) [some (.ref a), some (.int (i : Int)), some (.int c), some (.int (c % 2)), some (.int m), some x, some y, some v] H9 (!goodB (c % 2) x y) := et_not (et_B (ev_callF (ea_cons (ev_var rfl) (ea_cons (ev_var rfl) (ea_cons (ev_var rfl) (ea_cons (ev_var rfl) ea_nil)))) fun H10 e10 => ⟨x, y, m, c % 2, rfl, kx.mono e10, ky.mono e10, by rw [gd]⟩))
    rcases hv with ⟨hg, b, rfl, hb⟩ | ⟨hg, rfl⟩
    · refine s_if (b := false) (et_is tg (by rw [hg]; rfl)) (fun z => by cases z) fun _ H10 e10 => ?_
      replace hS := ex_l e10 hS
      obtain ⟨s0, f0, dx, rfl, rfl, hb⟩ := hb
      have hg2 := hg
      unfold goodB at hg2
      have bnds : 0 ≤ f0 ∧ f0 ≤ 1000000000000 ∧ (c % 2 = 0 → f0 ≤ 1000000000) := by
        rcases hway with h | h
        · rw [h, if_pos rfl, Bool.and_eq_true] at hg2
          obtain ⟨j, ej, j0, j1⟩ := inR_int hg2.2
          cases ej
          exact ⟨j0, by omega, fun _ => j1⟩
        · rw [h, if_neg (by decide), Bool.and_eq_true] at hg2
          obtain ⟨j, ej, j0, j1⟩ := inR_int hg2.2
          cases ej
          exact ⟨by omega, j1, fun z => by omega⟩
      have rooms : ∀ {σ : L2.St} {H' : Hp}, Ex H9 H' → σ = [some (.ref a), some (.int (i : Int)), some (.int c), some (.int (c % 2)), some (.int m), some (.int s0), some (.int f0), some (.ref b)] → SqL K H' a (ns.map V.int) → EvT (tNot (tB (tCall (spF (RRooms cJ cW)) [] C8.E0 (tCons (tVar 7) (tCons (tVar 3) (tCons (tVar 5) (tCons (tVar 6) (tCons (tCall (spF (RCell K)) [] C8.E0 (tCons (tVar 0) (tCons (tOp (rI0 fun i j => V.int (i + j)) (tOp (rI CMul fun i j => V.int (i * j)) (tC (.int 5)) (tVar 1)) (tC (.int 3))) tNil))) tNil)))))))) σ H' false := fun {σ H'} eh hσ hS => by
        subst hσ
        refine et_not (a := true) (et_B (ev_callF (ea_cons (ev_var rfl) (ea_cons (ev_var rfl) (ea_cons (ev_var rfl) (ea_cons (ev_var rfl) (ea_cons (cellAt rfl hS (ev_op (five rfl) ev_c rv_I0) (by omega)) ea_nil))))) fun H11 e11 => ⟨b, c % 2, s0, f0, _, rfl, ⟨s0, f0, dx, rfl, rfl, ?_⟩, hway, bnds.1, bnds.2.1, bnds.2.2, cellV_nn ns _, by have := cellV_lt ns (5 * (i : Int) + 3); omega, rfl⟩))
        exact hb.imp (fun z => ⟨z.1, e11 _ _ (eh _ _ z.2)⟩) fun z => ⟨z.1, e11 _ _ (eh _ _ z.2)⟩
      have isi : ∀ {σ : L2.St} {H' : Hp} {C D : Addr} {k : Bool}, Ex H9 H' → σ[7]? = some (some (.ref b)) → (∃ fs, H9 b = some (.ins C dx fs)) → Cls K C → InsF K C → PySem.W.kitOne K (.ref C) (.ref D) = some k → Ev (tCB (rIsi K) (tCons (tVar 7) (tCons (tC (.ref D)) tNil))) σ H' (.bl k) := fun eh h7 ⟨fs, hx⟩ cl fi hk => ev_isi (ev_var h7) ev_c (.own _) (fun H1 e1 => .base (.ins (e1 _ _ (eh _ _ hx)) cl fi.ha G.hn G.ht fi.hm)) hk
      have pair : ∀ {p q : Addr} {H' : Hp}, H' p = some (.tup [.int s0, .int f0]) → H' q = some (.tup [.int s0, .int f0]) → RV (rNeD K) (.ref p) (.ref q) H' (.bl false) := fun {p q H'} hp hq => by
        have z := eqv_tints [s0, f0] [s0, f0]
        rw [decide_eq_true rfl] at z
        have r := rv_neD (K := K) (x := .ref p) (y := .ref q) (H := H') (fun H1 e => .tup (st_of (e _ _ hp)) (dp_ints [s0, f0])) (fun H1 e => .tup (st_of (e _ _ hq)) (dp_ints [s0, f0])) (shaped_tints [s0, f0]) (shaped_tints [s0, f0])
        rw [z] at r
        exact r
      have two : ∀ {σ : L2.St} {H' : Hp}, σ[5]? = some (some (.int s0)) → σ[6]? = some (some (.int f0)) → EvU (tTup (tCons (tVar 5) (tCons (tVar 6) tNil))) σ H' [.int s0, .int f0] := fun h5 h6 => eu_tup (ea_cons (ev_var h5) (ea_cons (ev_var h6) ea_nil)) (by simp only [List.length_cons, List.length_nil]; omega)
      rcases hb with ⟨hw, hx⟩ | ⟨hw, hx⟩
      · have t0 : ∀ {σ : L2.St} {H' : Hp}, σ[3]? = some (some (.int (c % 2))) → Ev (tOp rEq (tVar 3) (tC (.int 0))) σ H' (.bl true) := fun h3 => ev_is (ev_op (ev_var h3) ev_c (rv_eq rfl)) (by rw [hw]; rfl)
        refine s_if (b := false) (et_or (a := false) (b := false) (et_not (a := true) (et_B (isi e10 rfl ⟨_, hx⟩ G.clJ G.fJ G.jb))) fun _ => et_test (ev_is (ev_op (isi e10 rfl ⟨_, hx⟩ G.clJ G.fJ G.jj) (t0 rfl) (rv_ne rfl)) rfl)) (fun z => by cases z) fun _ H11 e11 => ?_
        refine s_if (b := false) (et_and (a := true) (b := false) (et_test (t0 rfl)) fun _ => et_test (ev_opUU (xs := [.int s0, .int f0]) (ys := [.int s0, .int f0]) (eu_tup (ea_cons (ev_prop (ev_var rfl) (e11 _ _ (e10 _ _ hx)) fun H1 e => ⟨b, dx, _, rfl, e _ _ (e11 _ _ (e10 _ _ hx)), rfl⟩) (ea_cons (ev_prop (ev_var rfl) (e11 _ _ (e10 _ _ hx)) fun H1 e => ⟨b, dx, _, rfl, e _ _ (e11 _ _ (e10 _ _ hx)), rfl⟩) ea_nil)) (by simp only [List.length_cons, List.length_nil]; omega)) (two rfl rfl) fun p q H1 hp hq _ => pair hp hq)) (fun z => by cases z) fun _ H12 e12 => ?_
        refine s_if (b := false) (et_and (a := false) (b := true) (et_test (ev_is (ev_op (ev_var (v := .int (c % 2)) rfl) ev_c (rv_eq rfl)) (by rw [hw]; rfl))) fun z => by cases z) (fun z => by cases z) fun _ H13 e13 => ?_
        refine s_when (b := false) (rooms (((e10.trans e11).trans e12).trans e13) rfl (ex_l ((e11.trans e12).trans e13) hS)) (fun z => by cases z) fun _ H14 e14 => ⟨_, _, _, _, _, _, _, rfl, ex_l (((e11.trans e12).trans e13).trans e14) hS⟩
      · have hw1 : c % 2 = 1 := by omega
        have t0 : ∀ {σ : L2.St} {H' : Hp}, σ[3]? = some (some (.int (c % 2))) → Ev (tOp rEq (tVar 3) (tC (.int 0))) σ H' (.bl false) := fun h3 => ev_is (ev_op (ev_var h3) ev_c (rv_eq rfl)) (by rw [hw1]; rfl)
        refine s_if (b := false) (et_or (a := false) (b := false) (et_not (a := true) (et_B (isi e10 rfl ⟨_, hx⟩ G.clW G.fW G.wb))) fun _ => et_test (ev_is (ev_op (isi e10 rfl ⟨_, hx⟩ G.clW G.fW G.wj) (t0 rfl) (rv_ne rfl)) rfl)) (fun z => by cases z) fun _ H11 e11 => ?_
        refine s_if (b := false) (et_and (a := false) (b := true) (et_test (t0 rfl)) fun z => by cases z) (fun z => by cases z) fun _ H12 e12 => ?_
        have hx2 := e12 _ _ (e11 _ _ (e10 _ _ hx))
        refine s_if (b := false) (et_and (a := true) (b := false) (et_test (ev_is (ev_op (ev_var (v := .int (c % 2)) rfl) ev_c (rv_eq rfl)) (by rw [hw1]; rfl))) fun _ => et_test (ev_opUU (xs := [.int s0, .int f0]) (ys := [.int s0, .int f0]) (eu_tup (ea_cons (ev_prop (ev_var rfl) hx2 fun H1 e => ⟨b, dx, _, rfl, e _ _ hx2, rfl⟩) (ea_cons (ev_prop (ev_var rfl) hx2 fun H1 e => ⟨b, dx, _, rfl, e _ _ hx2, rfl⟩) ea_nil)) (by simp only [List.length_cons, List.length_nil]; omega)) (two rfl rfl) fun p q H1 hp hq _ => pair hp hq)) (fun z => by cases z) fun _ H13 e13 => ?_
        refine s_when (b := false) (rooms (((e10.trans e11).trans e12).trans e13) rfl (ex_l ((e11.trans e12).trans e13) hS)) (fun z => by cases z) fun _ H14 e14 => ⟨_, _, _, _, _, _, _, rfl, ex_l (((e11.trans e12).trans e13).trans e14) hS⟩
    · refine s_if (b := true) (et_is tg (by rw [hg]; rfl)) (fun _ H10 e10 => ?_) fun z => by cases z
      exact s_when (b := false) (et_test (ev_op (ev_var (v := .bl true) rfl) ev_c rv_notB)) (fun z => by cases z) fun _ H11 e11 => ⟨_, _, _, _, _, _, _, rfl, ex_l (e10.trans e11) hS⟩
end
theorem kit_sub {K : PySem.W.Frag} {C D : Addr} {b : Bool} (hd : PySem.W.hasDictIn K D = true) (ht : PySem.W.typeIn K (.ref D) = some (.type "type")) (hs : PySem.W.subIn K (.ref C) (.ref D) = some b) (hne : b = false → C ≠ D) : PySem.W.kitOne K (.ref C) (.ref D) = some b := by
  obtain ⟨cd, hc, _⟩ := PySem.W.any_some hd
  have e2 : ((PySem.W.clsIn K D).isSome && PySem.W.typeIn K (.ref D) == some (.type "type")) = true := by rw [hc, ht] <;> rfl
  show (if (Value.ref C == Value.ref D) = true then some true else PySem.W.kitCls K (.ref C) (.ref D)) = some b
  by_cases h : (Value.ref C == Value.ref D) = true
  · rw [if_pos h]
    cases b with
    | true => rfl
    | false =>
      have e := beq_iff_eq.mp h
      injection e with e
      exact absurd e (hne rfl)
  · rw [if_neg h]
    show (if ((PySem.W.clsIn K D).isSome && PySem.W.typeIn K (.ref D) == some (.type "type")) = true then PySem.W.subIn K (.ref C) (.ref D) else none) = some b
    rw [if_pos e2]
    exact hs

section
theorem all_mk {l : PySem.W.OpenLaw} {w : World} {K : PySem.W.Frag} {h : Heap} {mg : Str → Option Value} {fa : Addr} (X : K.In h) (G : h.Ns mainGlobals mg) (hfa : mg "law" = some (.ref fa))
    {t_LARGEST_SIZE : Tok}
    {t_LARGEST_FLOW : Tok}
    {t_LARGEST_MOST : Tok}
    {t_LARGEST_SPAN : Tok}
    {C_Jar : Addr}
    {od1 an1 : Option Addr} {sl1 : Array (Option Value)} {oc1 kV1 dc1 pm1 cd1 ct1 : Value} {f1 : Addr}
    {od2 an2 : Option Addr} {sl2 : Array (Option Value)} {oc2 kV2 dc2 pm2 cd2 ct2 : Value} {f2 : Addr}
    {C_Window : Addr}
    {od3 an3 : Option Addr} {sl3 : Array (Option Value)} {oc3 kV3 dc3 pm3 cd3 ct3 : Value} {f3 : Addr}
    {od4 an4 : Option Addr} {sl4 : Array (Option Value)} {oc4 kV4 dc4 pm4 cd4 ct4 : Value} {f4 : Addr}
    {CN CG CB : Addr}
    {p_Jar_size : Addr} {rest_Jar_size : List Value}
    {od5 an5 : Option Addr} {sl5 : Array (Option Value)} {oc5 kV5 dc5 pm5 cd5 ct5 : Value} {f5 : Addr}
    {p_Jar_flow : Addr} {rest_Jar_flow : List Value}
    {od6 an6 : Option Addr} {sl6 : Array (Option Value)} {oc6 kV6 dc6 pm6 cd6 ct6 : Value} {f6 : Addr}
    {p_Window_most : Addr} {rest_Window_most : List Value}
    {od7 an7 : Option Addr} {sl7 : Array (Option Value)} {oc7 kV7 dc7 pm7 cd7 ct7 : Value} {f7 : Addr}
    {p_Window_span : Addr} {rest_Window_span : List Value}
    {od8 an8 : Option Addr} {sl8 : Array (Option Value)} {oc8 kV8 dc8 pm8 cd8 ct8 : Value} {f8 : Addr}
    {od9 an9 : Option Addr} {sl9 : Array (Option Value)} {oc9 kV9 dc9 pm9 cd9 ct9 : Value} {f9 : Addr}
    {od10 an10 : Option Addr} {sl10 : Array (Option Value)} {oc10 kV10 dc10 pm10 cd10 ct10 : Value} {f10 : Addr}
    {od11 an11 : Option Addr} {sl11 : Array (Option Value)} {oc11 kV11 dc11 pm11 cd11 ct11 : Value} {f11 : Addr}
    {od12 an12 : Option Addr} {sl12 : Array (Option Value)} {oc12 kV12 dc12 pm12 cd12 ct12 : Value} {f12 : Addr}
    {od13 an13 : Option Addr} {sl13 : Array (Option Value)} {oc13 kV13 dc13 pm13 cd13 ct13 : Value} {f13 : Addr}
    {od14 an14 : Option Addr} {sl14 : Array (Option Value)} {oc14 kV14 dc14 pm14 cd14 ct14 : Value} {f14 : Addr}
    {od15 an15 : Option Addr} {sl15 : Array (Option Value)} {oc15 kV15 dc15 pm15 cd15 ct15 : Value} {f15 : Addr}
    {od16 an16 : Option Addr} {sl16 : Array (Option Value)} {oc16 kV16 dc16 pm16 cd16 ct16 : Value} {f16 : Addr}
    {od17 an17 : Option Addr} {sl17 : Array (Option Value)} {oc17 kV17 dc17 pm17 cd17 ct17 : Value} {f17 : Addr}
    (z_len : PySem.W.nsIn K mainGlobals "len" = some none)
    (z_range : PySem.W.nsIn K mainGlobals "range" = some none)
    (z_max : PySem.W.nsIn K mainGlobals "max" = some none)
    (z_int : PySem.W.nsIn K mainGlobals "int" = some none)
    (z_bool : PySem.W.nsIn K mainGlobals "bool" = some none)
    (z_isinstance : PySem.W.nsIn K mainGlobals "isinstance" = some none)
    (g_LARGEST_SIZE : PySem.W.nsIn K mainGlobals "LARGEST_SIZE" = some (some (.int 1000000000000000 t_LARGEST_SIZE)))
    (g_LARGEST_FLOW : PySem.W.nsIn K mainGlobals "LARGEST_FLOW" = some (some (.int 1000000000 t_LARGEST_FLOW)))
    (g_LARGEST_MOST : PySem.W.nsIn K mainGlobals "LARGEST_MOST" = some (some (.int 1000000000000000 t_LARGEST_MOST)))
    (g_LARGEST_SPAN : PySem.W.nsIn K mainGlobals "LARGEST_SPAN" = some (some (.int 1000000000000 t_LARGEST_SPAN)))
    (aC_Jar : PySem.W.nsIn K mainGlobals "Jar" = some (some (.ref C_Jar)))
    (pg_Jar : PySem.W.plainGet K C_Jar Str.empty = true)
    (hd_Jar : PySem.W.hasDictIn K C_Jar = true)
    (po_Jar : PySem.W.plainOver K C_Jar = true)
    (sa_Jar : PySem.W.findIn K (.ref C_Jar) "__setattr__" = some (some (.builtin "object.__setattr__")))
    (mk_Jar : PySem.W.makesIn K C_Jar = true)
    (kc_Jar : PySem.W.keepIn K (.ref C_Jar) = true)
    (n_Jar_0 : PySem.W.findIn K (.ref C_Jar) "_size" = some none)
    (n_Jar_1 : PySem.W.findIn K (.ref C_Jar) "_flow" = some none)
    (a1 : PySem.W.findIn K (.ref C_Jar) "__init__" = some (some (.ref f1)))
    (l1 : K.lookup f1 = some ⟨oc1, od1, .func (PySem.W.fnOf "__init__" "Jar.__init__" (C8.fnArgs s_Jar_init) (C8.fnBody s_Jar_init) (C8.fnScope s_Jar_init) .none kV1 dc1 pm1 an1 cd1 ct1), sl1⟩)
    (c1 : PySem.W.codeIn K cd1 "Jar.__init__" = true)
    (k1 : PySem.W.keepIn K (.ref f1) = true)
    (i1 : PySem.W.isFn K (.ref f1) = true)
    (a2 : PySem.W.findIn K (.ref C_Jar) "room" = some (some (.ref f2)))
    (l2 : K.lookup f2 = some ⟨oc2, od2, .func (PySem.W.fnOf "room" "Jar.room" (C8.fnArgs s_Jar_room) (C8.fnBody s_Jar_room) (C8.fnScope s_Jar_room) .none kV2 dc2 pm2 an2 cd2 ct2), sl2⟩)
    (c2 : PySem.W.codeIn K cd2 "Jar.room" = true)
    (k2 : PySem.W.keepIn K (.ref f2) = true)
    (i2 : PySem.W.isFn K (.ref f2) = true)
    (aC_Window : PySem.W.nsIn K mainGlobals "Window" = some (some (.ref C_Window)))
    (pg_Window : PySem.W.plainGet K C_Window Str.empty = true)
    (hd_Window : PySem.W.hasDictIn K C_Window = true)
    (po_Window : PySem.W.plainOver K C_Window = true)
    (sa_Window : PySem.W.findIn K (.ref C_Window) "__setattr__" = some (some (.builtin "object.__setattr__")))
    (mk_Window : PySem.W.makesIn K C_Window = true)
    (kc_Window : PySem.W.keepIn K (.ref C_Window) = true)
    (n_Window_0 : PySem.W.findIn K (.ref C_Window) "_most" = some none)
    (n_Window_1 : PySem.W.findIn K (.ref C_Window) "_span" = some none)
    (a3 : PySem.W.findIn K (.ref C_Window) "__init__" = some (some (.ref f3)))
    (l3 : K.lookup f3 = some ⟨oc3, od3, .func (PySem.W.fnOf "__init__" "Window.__init__" (C8.fnArgs s_Window_init) (C8.fnBody s_Window_init) (C8.fnScope s_Window_init) .none kV3 dc3 pm3 an3 cd3 ct3), sl3⟩)
    (c3 : PySem.W.codeIn K cd3 "Window.__init__" = true)
    (k3 : PySem.W.keepIn K (.ref f3) = true)
    (i3 : PySem.W.isFn K (.ref f3) = true)
    (a4 : PySem.W.findIn K (.ref C_Window) "room" = some (some (.ref f4)))
    (l4 : K.lookup f4 = some ⟨oc4, od4, .func (PySem.W.fnOf "room" "Window.room" (C8.fnArgs s_Window_room) (C8.fnBody s_Window_room) (C8.fnScope s_Window_room) .none kV4 dc4 pm4 an4 cd4 ct4), sl4⟩)
    (c4 : PySem.W.codeIn K cd4 "Window.room" = true)
    (k4 : PySem.W.keepIn K (.ref f4) = true)
    (i4 : PySem.W.isFn K (.ref f4) = true)
    (aN : PySem.W.nsIn K mainGlobals "NoBound" = some (some (.ref CN)))
    (aG : PySem.W.nsIn K mainGlobals "GateError" = some (some (.ref CG)))
    (aB : PySem.W.nsIn K mainGlobals "Bound" = some (some (.ref CB)))
    (xN : PySem.W.excIn K CN [.type "ValueError", .type "Exception", .type "BaseException", .type "object"] "ValueError.__new__" = true)
    (kN : PySem.W.keepIn K (.ref CN) = true)
    (sN : PySem.W.subIn K (.ref CN) (.type "BaseException") = some true)
    (tN : PySem.W.typeIn K (.ref CN) = some (.type "type"))
    (sG : PySem.W.subIn K (.ref CG) (.type "BaseException") = some true)
    (dG : PySem.W.hasDictIn K CG = true)
    (tG : PySem.W.typeIn K (.ref CG) = some (.type "type"))
    (sNG : PySem.W.subIn K (.ref CN) (.ref CG) = some true)
    (hgN : PySem.W.findIn K (.ref CN) "__getattribute__" = some (some (.builtin "BaseException.__getattribute__")))
    (hkN : PySem.W.findIn K (.ref CN) "__getattr__" = some none)
    (hdN : PySem.W.hasDictIn K CN = true)
    (haN : PySem.W.findIn K (.ref CN) "__class__" = some (some (.builtin "object.__class__")))
    (hnO : PySem.W.specialIn K (.builtin "object.__class__") "__get__" = some (some (.builtin "getset_descriptor.__get__")))
    (htO : PySem.W.takesIn K (.builtin "object.__class__") = some true)
    (hmN : PySem.W.mroIn K CN (.type "object") = some true)
    (kNN : PySem.W.subIn K (.ref CN) (.ref CN) = some true)
    (haJ : PySem.W.findIn K (.ref C_Jar) "__class__" = some (some (.builtin "object.__class__")))
    (hmJ : PySem.W.mroIn K C_Jar (.type "object") = some true)
    (haW : PySem.W.findIn K (.ref C_Window) "__class__" = some (some (.builtin "object.__class__")))
    (hmW : PySem.W.mroIn K C_Window (.type "object") = some true)
    (dB : PySem.W.hasDictIn K CB = true)
    (tB : PySem.W.typeIn K (.ref CB) = some (.type "type"))
    (tJ : PySem.W.typeIn K (.ref C_Jar) = some (.type "type"))
    (jb : PySem.W.subIn K (.ref C_Jar) (.ref CB) = some true)
    (wb : PySem.W.subIn K (.ref C_Window) (.ref CB) = some true)
    (jj : PySem.W.subIn K (.ref C_Jar) (.ref C_Jar) = some true)
    (wj : PySem.W.subIn K (.ref C_Window) (.ref C_Jar) = some false)
    (nWJ : C_Window ≠ C_Jar)
    (pf_Jar_size : PySem.W.findIn K (.ref C_Jar) "size" = some (some (.ref p_Jar_size)))
    (pd_Jar_size : PySem.W.specialIn K (.ref p_Jar_size) "__get__" = some (some (.builtin "property.__get__")))
    (pt_Jar_size : PySem.W.takesIn K (.ref p_Jar_size) = some true)
    (a5 : PySem.W.recIn K p_Jar_size "property" = some (.ref f5 :: rest_Jar_size))
    (l5 : K.lookup f5 = some ⟨oc5, od5, .func (PySem.W.fnOf "size" "Jar.size" (C8.fnArgs s_Jar_size) (C8.fnBody s_Jar_size) (C8.fnScope s_Jar_size) .none kV5 dc5 pm5 an5 cd5 ct5), sl5⟩)
    (c5 : PySem.W.codeIn K cd5 "Jar.size" = true)
    (k5 : PySem.W.keepIn K (.ref f5) = true)
    (pf_Jar_flow : PySem.W.findIn K (.ref C_Jar) "flow" = some (some (.ref p_Jar_flow)))
    (pd_Jar_flow : PySem.W.specialIn K (.ref p_Jar_flow) "__get__" = some (some (.builtin "property.__get__")))
    (pt_Jar_flow : PySem.W.takesIn K (.ref p_Jar_flow) = some true)
    (a6 : PySem.W.recIn K p_Jar_flow "property" = some (.ref f6 :: rest_Jar_flow))
    (l6 : K.lookup f6 = some ⟨oc6, od6, .func (PySem.W.fnOf "flow" "Jar.flow" (C8.fnArgs s_Jar_flow) (C8.fnBody s_Jar_flow) (C8.fnScope s_Jar_flow) .none kV6 dc6 pm6 an6 cd6 ct6), sl6⟩)
    (c6 : PySem.W.codeIn K cd6 "Jar.flow" = true)
    (k6 : PySem.W.keepIn K (.ref f6) = true)
    (pf_Window_most : PySem.W.findIn K (.ref C_Window) "most" = some (some (.ref p_Window_most)))
    (pd_Window_most : PySem.W.specialIn K (.ref p_Window_most) "__get__" = some (some (.builtin "property.__get__")))
    (pt_Window_most : PySem.W.takesIn K (.ref p_Window_most) = some true)
    (a7 : PySem.W.recIn K p_Window_most "property" = some (.ref f7 :: rest_Window_most))
    (l7 : K.lookup f7 = some ⟨oc7, od7, .func (PySem.W.fnOf "most" "Window.most" (C8.fnArgs s_Window_most) (C8.fnBody s_Window_most) (C8.fnScope s_Window_most) .none kV7 dc7 pm7 an7 cd7 ct7), sl7⟩)
    (c7 : PySem.W.codeIn K cd7 "Window.most" = true)
    (k7 : PySem.W.keepIn K (.ref f7) = true)
    (pf_Window_span : PySem.W.findIn K (.ref C_Window) "span" = some (some (.ref p_Window_span)))
    (pd_Window_span : PySem.W.specialIn K (.ref p_Window_span) "__get__" = some (some (.builtin "property.__get__")))
    (pt_Window_span : PySem.W.takesIn K (.ref p_Window_span) = some true)
    (a8 : PySem.W.recIn K p_Window_span "property" = some (.ref f8 :: rest_Window_span))
    (l8 : K.lookup f8 = some ⟨oc8, od8, .func (PySem.W.fnOf "span" "Window.span" (C8.fnArgs s_Window_span) (C8.fnBody s_Window_span) (C8.fnScope s_Window_span) .none kV8 dc8 pm8 an8 cd8 ct8), sl8⟩)
    (c8 : PySem.W.codeIn K cd8 "Window.span" = true)
    (k8 : PySem.W.keepIn K (.ref f8) = true)
    (a9 : PySem.W.nsIn K mainGlobals "is_within" = some (some (.ref f9)))
    (l9 : K.lookup f9 = some ⟨oc9, od9, .func (PySem.W.fnOf "is_within" "is_within" (C8.fnArgs s_is_within) (C8.fnBody s_is_within) (C8.fnScope s_is_within) .none kV9 dc9 pm9 an9 cd9 ct9), sl9⟩)
    (c9 : PySem.W.codeIn K cd9 "is_within" = true)
    (k9 : PySem.W.keepIn K (.ref f9) = true)
    (a10 : PySem.W.nsIn K mainGlobals "_law_cell" = some (some (.ref f10)))
    (l10 : K.lookup f10 = some ⟨oc10, od10, .func (PySem.W.fnOf "_law_cell" "_law_cell" (C8.fnArgs s_Lcell) (C8.fnBody s_Lcell) (C8.fnScope s_Lcell) .none kV10 dc10 pm10 an10 cd10 ct10), sl10⟩)
    (c10 : PySem.W.codeIn K cd10 "_law_cell" = true)
    (k10 : PySem.W.keepIn K (.ref f10) = true)
    (a11 : PySem.W.nsIn K mainGlobals "_law_number" = some (some (.ref f11)))
    (l11 : K.lookup f11 = some ⟨oc11, od11, .func (PySem.W.fnOf "_law_number" "_law_number" (C8.fnArgs s_Lnumber) (C8.fnBody s_Lnumber) (C8.fnScope s_Lnumber) .none kV11 dc11 pm11 an11 cd11 ct11), sl11⟩)
    (c11 : PySem.W.codeIn K cd11 "_law_number" = true)
    (k11 : PySem.W.keepIn K (.ref f11) = true)
    (a12 : PySem.W.nsIn K mainGlobals "_law_odd" = some (some (.ref f12)))
    (l12 : K.lookup f12 = some ⟨oc12, od12, .func (PySem.W.fnOf "_law_odd" "_law_odd" (C8.fnArgs s_Lodd) (C8.fnBody s_Lodd) (C8.fnScope s_Lodd) .none kV12 dc12 pm12 an12 cd12 ct12), sl12⟩)
    (c12 : PySem.W.codeIn K cd12 "_law_odd" = true)
    (k12 : PySem.W.keepIn K (.ref f12) = true)
    (a13 : PySem.W.nsIn K mainGlobals "_law_good" = some (some (.ref f13)))
    (l13 : K.lookup f13 = some ⟨oc13, od13, .func (PySem.W.fnOf "_law_good" "_law_good" (C8.fnArgs s_Lgood) (C8.fnBody s_Lgood) (C8.fnScope s_Lgood) .none kV13 dc13 pm13 an13 cd13 ct13), sl13⟩)
    (c13 : PySem.W.codeIn K cd13 "_law_good" = true)
    (k13 : PySem.W.keepIn K (.ref f13) = true)
    (a14 : PySem.W.nsIn K mainGlobals "_law_bound_of" = some (some (.ref f14)))
    (l14 : K.lookup f14 = some ⟨oc14, od14, .func (PySem.W.fnOf "_law_bound_of" "_law_bound_of" (C8.fnArgs s_Lbound_of) (C8.fnBody s_Lbound_of) (C8.fnScope s_Lbound_of) .none kV14 dc14 pm14 an14 cd14 ct14), sl14⟩)
    (c14 : PySem.W.codeIn K cd14 "_law_bound_of" = true)
    (k14 : PySem.W.keepIn K (.ref f14) = true)
    (a15 : PySem.W.nsIn K mainGlobals "_law_same" = some (some (.ref f15)))
    (l15 : K.lookup f15 = some ⟨oc15, od15, .func (PySem.W.fnOf "_law_same" "_law_same" (C8.fnArgs s_Lsame) (C8.fnBody s_Lsame) (C8.fnScope s_Lsame) .none kV15 dc15 pm15 an15 cd15 ct15), sl15⟩)
    (c15 : PySem.W.codeIn K cd15 "_law_same" = true)
    (k15 : PySem.W.keepIn K (.ref f15) = true)
    (a16 : PySem.W.nsIn K mainGlobals "_law_rooms" = some (some (.ref f16)))
    (l16 : K.lookup f16 = some ⟨oc16, od16, .func (PySem.W.fnOf "_law_rooms" "_law_rooms" (C8.fnArgs s_Lrooms) (C8.fnBody s_Lrooms) (C8.fnScope s_Lrooms) .none kV16 dc16 pm16 an16 cd16 ct16), sl16⟩)
    (c16 : PySem.W.codeIn K cd16 "_law_rooms" = true)
    (k16 : PySem.W.keepIn K (.ref f16) = true)
    (a17 : PySem.W.nsIn K mainGlobals "law" = some (some (.ref f17)))
    (l17 : K.lookup f17 = some ⟨oc17, od17, .func (PySem.W.fnOf "law" "law" (C8.fnArgs s_law) (C8.fnBody s_law) (C8.fnScope s_law) .none kV17 dc17 pm17 an17 cd17 ct17), sl17⟩)
    (c17 : PySem.W.codeIn K cd17 "law" = true)
    (k17 : PySem.W.keepIn K (.ref f17) = true) :
    ∃ fd : FuncData, (∀ (s : Shared) (v : Value), BindsTo s fd ⟨[v], []⟩ [("_law_script", v)]) ∧ ∀ base : Heap, K.In base → base.Ns mainGlobals mg → FnOk l.prog w K mg base CX0 5 fa fd ["_law_script"] (spLaw K) := by
  have e : f17 = fa := by
    have e := (PySem.W.mg_of X G a17).symm.trans hfa
    injection e with e
    injection e
  subst e
  have T : Blt mg := ⟨PySem.W.mg_none_of X G z_len, PySem.W.mg_none_of X G z_range, PySem.W.mg_none_of X G z_max, PySem.W.mg_none_of X G z_int, PySem.W.mg_none_of X G z_bool, PySem.W.mg_none_of X G z_isinstance⟩
  have Gc : Cst mg := ⟨⟨_, PySem.W.mg_of X G g_LARGEST_SIZE, ⟨_, rfl⟩⟩, ⟨_, PySem.W.mg_of X G g_LARGEST_FLOW, ⟨_, rfl⟩⟩, ⟨_, PySem.W.mg_of X G g_LARGEST_MOST, ⟨_, rfl⟩⟩, ⟨_, PySem.W.mg_of X G g_LARGEST_SPAN, ⟨_, rfl⟩⟩⟩
  have cl_Jar : Cls K C_Jar := ⟨pg_Jar, hd_Jar, po_Jar, sa_Jar⟩
  have kl_Jar : ClJar K C_Jar := ⟨cl_Jar, n_Jar_0, n_Jar_1⟩
  have F1 : C8.Fun K "__init__" "Jar.__init__" s_Jar_init f1 _ := ⟨⟨oc1, od1, .none, kV1, dc1, pm1, an1, cd1, ct1, sl1, rfl, l1, c1⟩⟩
  have b1 : Binds K _ ["self", "size", "flow"] [] := F1.binds rfl (ps := ["self", "size", "flow"]) fun _ _ _ _ _ _ us hl => match us, hl with | [_, _, _], _ => rfl
  have M_Jar : Mk K C_Jar f1 := ⟨mk_Jar, a1, i1, kc_Jar⟩
  have mg_Jar := PySem.W.mg_of X G aC_Jar
  have fn_Jar_init := F1
  have bi_Jar_init := b1
  have F2 : C8.Fun K "room" "Jar.room" s_Jar_room f2 _ := ⟨⟨oc2, od2, .none, kV2, dc2, pm2, an2, cd2, ct2, sl2, rfl, l2, c2⟩⟩
  have b2 : Binds K _ ["self", "first", "last"] [] := F2.binds rfl (ps := ["self", "first", "last"]) fun _ _ _ _ _ _ us hl => match us, hl with | [_, _, _], _ => rfl
  have me_Jar_room : Meth K C_Jar "room" f2 := ⟨a2, i2, k2⟩
  have fn_Jar_room := F2
  have bi_Jar_room := b2
  have cl_Window : Cls K C_Window := ⟨pg_Window, hd_Window, po_Window, sa_Window⟩
  have kl_Window : ClWin K C_Window := ⟨cl_Window, n_Window_0, n_Window_1⟩
  have F3 : C8.Fun K "__init__" "Window.__init__" s_Window_init f3 _ := ⟨⟨oc3, od3, .none, kV3, dc3, pm3, an3, cd3, ct3, sl3, rfl, l3, c3⟩⟩
  have b3 : Binds K _ ["self", "most", "span"] [] := F3.binds rfl (ps := ["self", "most", "span"]) fun _ _ _ _ _ _ us hl => match us, hl with | [_, _, _], _ => rfl
  have M_Window : Mk K C_Window f3 := ⟨mk_Window, a3, i3, kc_Window⟩
  have mg_Window := PySem.W.mg_of X G aC_Window
  have fn_Window_init := F3
  have bi_Window_init := b3
  have F4 : C8.Fun K "room" "Window.room" s_Window_room f4 _ := ⟨⟨oc4, od4, .none, kV4, dc4, pm4, an4, cd4, ct4, sl4, rfl, l4, c4⟩⟩
  have b4 : Binds K _ ["self", "first", "last"] [] := F4.binds rfl (ps := ["self", "first", "last"]) fun _ _ _ _ _ _ us hl => match us, hl with | [_, _, _], _ => rfl
  have me_Window_room : Meth K C_Window "room" f4 := ⟨a4, i4, k4⟩
  have fn_Window_room := F4
  have bi_Window_room := b4
  have N0 : NBx K mg CN CG := { gP := PySem.W.mg_of X G aN, xP := xN, kP := kN, bP := sN, tP := tN, gG := PySem.W.mg_of X G aG, te := PySem.W.exm_ref sG dG tG sNG, exc := ⟨hgN, hkN, sN, hdN, haN, hnO, htO, hmN⟩, kN := kit_sub hdN tN kNN (fun z => nomatch z) }
  have GG : ClsG K mg CB C_Jar C_Window := { c_Bound := PySem.W.mg_of X G aB, c_Jar := PySem.W.mg_of X G aC_Jar, clJ := cl_Jar, clW := cl_Window, fJ := ⟨haJ, hmJ⟩, fW := ⟨haW, hmW⟩, hn := hnO, ht := htO, jb := kit_sub dB tB jb (fun z => nomatch z), wb := kit_sub dB tB wb (fun z => nomatch z), jj := kit_sub hd_Jar tJ jj (fun z => nomatch z), wj := kit_sub hd_Jar tJ wj fun _ => nWJ }
  have F5 : C8.Fun K "size" "Jar.size" s_Jar_size f5 _ := ⟨⟨oc5, od5, .none, kV5, dc5, pm5, an5, cd5, ct5, sl5, rfl, l5, c5⟩⟩
  have b5 : Binds K _ ["self"] [] := F5.binds rfl (ps := ["self"]) fun _ _ _ _ _ _ us hl => match us, hl with | [_], _ => rfl
  have po_Jar_size : PropOf K C_Jar "size" p_Jar_size f5 := ⟨pf_Jar_size, pd_Jar_size, pt_Jar_size, ⟨_, a5⟩⟩
  have fn_Jar_size := F5
  have bi_Jar_size := b5
  have F6 : C8.Fun K "flow" "Jar.flow" s_Jar_flow f6 _ := ⟨⟨oc6, od6, .none, kV6, dc6, pm6, an6, cd6, ct6, sl6, rfl, l6, c6⟩⟩
  have b6 : Binds K _ ["self"] [] := F6.binds rfl (ps := ["self"]) fun _ _ _ _ _ _ us hl => match us, hl with | [_], _ => rfl
  have po_Jar_flow : PropOf K C_Jar "flow" p_Jar_flow f6 := ⟨pf_Jar_flow, pd_Jar_flow, pt_Jar_flow, ⟨_, a6⟩⟩
  have fn_Jar_flow := F6
  have bi_Jar_flow := b6
  have F7 : C8.Fun K "most" "Window.most" s_Window_most f7 _ := ⟨⟨oc7, od7, .none, kV7, dc7, pm7, an7, cd7, ct7, sl7, rfl, l7, c7⟩⟩
  have b7 : Binds K _ ["self"] [] := F7.binds rfl (ps := ["self"]) fun _ _ _ _ _ _ us hl => match us, hl with | [_], _ => rfl
  have po_Window_most : PropOf K C_Window "most" p_Window_most f7 := ⟨pf_Window_most, pd_Window_most, pt_Window_most, ⟨_, a7⟩⟩
  have fn_Window_most := F7
  have bi_Window_most := b7
  have F8 : C8.Fun K "span" "Window.span" s_Window_span f8 _ := ⟨⟨oc8, od8, .none, kV8, dc8, pm8, an8, cd8, ct8, sl8, rfl, l8, c8⟩⟩
  have b8 : Binds K _ ["self"] [] := F8.binds rfl (ps := ["self"]) fun _ _ _ _ _ _ us hl => match us, hl with | [_], _ => rfl
  have po_Window_span : PropOf K C_Window "span" p_Window_span f8 := ⟨pf_Window_span, pd_Window_span, pt_Window_span, ⟨_, a8⟩⟩
  have fn_Window_span := F8
  have bi_Window_span := b8
  have F9 : C8.Fun K "is_within" "is_within" s_is_within f9 _ := ⟨⟨oc9, od9, .none, kV9, dc9, pm9, an9, cd9, ct9, sl9, rfl, l9, c9⟩⟩
  have b9 : Binds K _ ["value", "least", "largest"] [] := F9.binds rfl (ps := ["value", "least", "largest"]) fun _ _ _ _ _ _ us hl => match us, hl with | [_, _, _], _ => rfl
  have df_is_within : C8.Def K mg "is_within" s_is_within f9 _ := ⟨F9, PySem.W.mg_of X G a9, k9⟩
  have bi_is_within := b9
  have F10 : C8.Fun K "_law_cell" "_law_cell" s_Lcell f10 _ := ⟨⟨oc10, od10, .none, kV10, dc10, pm10, an10, cd10, ct10, sl10, rfl, l10, c10⟩⟩
  have b10 : Binds K _ ["_law_script", "_law_k"] [] := F10.binds rfl (ps := ["_law_script", "_law_k"]) fun _ _ _ _ _ _ us hl => match us, hl with | [_, _], _ => rfl
  have df_Lcell : C8.Def K mg "_law_cell" s_Lcell f10 _ := ⟨F10, PySem.W.mg_of X G a10, k10⟩
  have bi_Lcell := b10
  have F11 : C8.Fun K "_law_number" "_law_number" s_Lnumber f11 _ := ⟨⟨oc11, od11, .none, kV11, dc11, pm11, an11, cd11, ct11, sl11, rfl, l11, c11⟩⟩
  have b11 : Binds K _ ["_law_cell_here", "_law_most"] [] := F11.binds rfl (ps := ["_law_cell_here", "_law_most"]) fun _ _ _ _ _ _ us hl => match us, hl with | [_, _], _ => rfl
  have df_Lnumber : C8.Def K mg "_law_number" s_Lnumber f11 _ := ⟨F11, PySem.W.mg_of X G a11, k11⟩
  have bi_Lnumber := b11
  have F12 : C8.Fun K "_law_odd" "_law_odd" s_Lodd f12 _ := ⟨⟨oc12, od12, .none, kV12, dc12, pm12, an12, cd12, ct12, sl12, rfl, l12, c12⟩⟩
  have b12 : Binds K _ ["_law_cell_here"] [] := F12.binds rfl (ps := ["_law_cell_here"]) fun _ _ _ _ _ _ us hl => match us, hl with | [_], _ => rfl
  have df_Lodd : C8.Def K mg "_law_odd" s_Lodd f12 _ := ⟨F12, PySem.W.mg_of X G a12, k12⟩
  have bi_Lodd := b12
  have F13 : C8.Fun K "_law_good" "_law_good" s_Lgood f13 _ := ⟨⟨oc13, od13, .none, kV13, dc13, pm13, an13, cd13, ct13, sl13, rfl, l13, c13⟩⟩
  have b13 : Binds K _ ["_law_one", "_law_other", "_law_most", "_law_least"] [] := F13.binds rfl (ps := ["_law_one", "_law_other", "_law_most", "_law_least"]) fun _ _ _ _ _ _ us hl => match us, hl with | [_, _, _, _], _ => rfl
  have df_Lgood : C8.Def K mg "_law_good" s_Lgood f13 _ := ⟨F13, PySem.W.mg_of X G a13, k13⟩
  have bi_Lgood := b13
  have F14 : C8.Fun K "_law_bound_of" "_law_bound_of" s_Lbound_of f14 _ := ⟨⟨oc14, od14, .none, kV14, dc14, pm14, an14, cd14, ct14, sl14, rfl, l14, c14⟩⟩
  have b14 : Binds K _ ["_law_way", "_law_one", "_law_other"] [] := F14.binds rfl (ps := ["_law_way", "_law_one", "_law_other"]) fun _ _ _ _ _ _ us hl => match us, hl with | [_, _, _], _ => rfl
  have df_Lbound_of : C8.Def K mg "_law_bound_of" s_Lbound_of f14 _ := ⟨F14, PySem.W.mg_of X G a14, k14⟩
  have bi_Lbound_of := b14
  have F15 : C8.Fun K "_law_same" "_law_same" s_Lsame f15 _ := ⟨⟨oc15, od15, .none, kV15, dc15, pm15, an15, cd15, ct15, sl15, rfl, l15, c15⟩⟩
  have b15 : Binds K _ ["_law_found", "_law_due"] [] := F15.binds rfl (ps := ["_law_found", "_law_due"]) fun _ _ _ _ _ _ us hl => match us, hl with | [_, _], _ => rfl
  have df_Lsame : C8.Def K mg "_law_same" s_Lsame f15 _ := ⟨F15, PySem.W.mg_of X G a15, k15⟩
  have bi_Lsame := b15
  have F16 : C8.Fun K "_law_rooms" "_law_rooms" s_Lrooms f16 _ := ⟨⟨oc16, od16, .none, kV16, dc16, pm16, an16, cd16, ct16, sl16, rfl, l16, c16⟩⟩
  have b16 : Binds K _ ["_law_bound", "_law_way", "_law_one", "_law_other", "_law_cell_here"] [] := F16.binds rfl (ps := ["_law_bound", "_law_way", "_law_one", "_law_other", "_law_cell_here"]) fun _ _ _ _ _ _ us hl => match us, hl with | [_, _, _, _, _], _ => rfl
  have df_Lrooms : C8.Def K mg "_law_rooms" s_Lrooms f16 _ := ⟨F16, PySem.W.mg_of X G a16, k16⟩
  have bi_Lrooms := b16
  have F17 : C8.Fun K "law" "law" s_law f17 _ := ⟨⟨oc17, od17, .none, kV17, dc17, pm17, an17, cd17, ct17, sl17, rfl, l17, c17⟩⟩
  have b17 : Binds K _ ["_law_script"] [] := F17.binds rfl (ps := ["_law_script"]) fun _ _ _ _ _ _ us hl => match us, hl with | [_], _ => rfl
  have df_law : C8.Def K mg "law" s_law f17 _ := ⟨F17, PySem.W.mg_of X G a17, k17⟩
  have bi_law := b17
  refine ⟨PySem.W.fnOf "law" "law" (C8.fnArgs s_law) (C8.fnBody s_law) (C8.fnScope s_law) .none kV17 dc17 pm17 an17 cd17 ct17, fun s v => .of_eq rfl, fun base _ _ => ?_⟩
  have c_is := cal_is_within (P := l.prog) (w := w) (base := base) (mg := mg) T df_is_within bi_is_within
  have okJ := ok_Jar (P := l.prog) (w := w) (base := base) (mg := mg) Gc N0.toNBt kl_Jar c_is fn_Jar_init
  have okW := ok_Window (P := l.prog) (w := w) (base := base) (mg := mg) Gc N0.toNBt kl_Window c_is fn_Window_init
  have rJ := met_Jar_room (P := l.prog) (w := w) (base := base) (mg := mg) kl_Jar me_Jar_room fn_Jar_room bi_Jar_room
  have rW := met_Window_room (P := l.prog) (w := w) (base := base) (mg := mg) kl_Window me_Window_room fn_Window_room bi_Window_room
  have pS := prp_Jar_size (P := l.prog) (w := w) (base := base) (mg := mg) kl_Jar po_Jar_size fn_Jar_size bi_Jar_size
  have pF := prp_Jar_flow (P := l.prog) (w := w) (base := base) (mg := mg) kl_Jar po_Jar_flow fn_Jar_flow bi_Jar_flow
  have pM := prp_Window_most (P := l.prog) (w := w) (base := base) (mg := mg) kl_Window po_Window_most fn_Window_most bi_Window_most
  have pP := prp_Window_span (P := l.prog) (w := w) (base := base) (mg := mg) kl_Window po_Window_span fn_Window_span bi_Window_span
  have cell := cal_Lcell (P := l.prog) (w := w) (base := base) (mg := mg) T df_Lcell bi_Lcell
  have num := cal_Lnumber (P := l.prog) (w := w) (base := base) (mg := mg) df_Lnumber bi_Lnumber
  have odd := cal_Lodd (P := l.prog) (w := w) (base := base) (mg := mg) df_Lodd bi_Lodd
  have good := cal_Lgood (P := l.prog) (w := w) (base := base) (mg := mg) T df_Lgood bi_Lgood
  have bo := cal_Lbound_of (P := l.prog) (w := w) (base := base) (mg := mg) T N0 M_Jar okJ mg_Jar bi_Jar_init M_Window okW mg_Window bi_Window_init df_Lbound_of bi_Lbound_of
  have same := cal_Lsame (P := l.prog) (w := w) (base := base) (mg := mg) T df_Lsame bi_Lsame
  have rooms := cal_Lrooms (P := l.prog) (w := w) (base := base) (mg := mg) T rJ rW same df_Lrooms bi_Lrooms
  exact ok_law T GG df_law.fn cell num odd bo good rooms pS pF pM pP
theorem walk {l : PySem.W.OpenLaw} {q : Program} {loose : List Str} {XP : (Str → Option Value) → Heap → Prop} {YP : World → Heap → Prop} {d : DefRec} {K : Params → PySem.W.Frag} (hn : l.most = some 63) (hdf : d.params.defaults = [])
    (hY : ∀ (w : World) (h : Heap), YP w h → (K w.params).In h)
    (F : ∀ (w : World) (mg : Str → Option Value) (fa : Addr) (h : Heap), (K w.params).In h → h.Ns mainGlobals mg → mg d.name = some (.ref fa) →
      ∃ fd : FuncData, (∀ (s : Shared) (u : Value), BindsTo s fd ⟨[u], []⟩ [("_law_script", u)]) ∧ ∀ base : Heap, (K w.params).In base → base.Ns mainGlobals mg → FnOk l.prog w (K w.params) mg base CX0 5 fa fd ["_law_script"] (spLaw (K w.params))) :
    PySem.W.WalkO q loose XP YP l.row.toRowW d [] (fun f vs => PySem.call f vs) :=
  L2.walk_of (n := 63) (k := 5) (x := "_law_script") (CX := fun _ => CX0) (sp := fun w => spLaw (K w.params)) hn (by decide) hdf ⟨rfl, by decide, by decide⟩ hY F (fun _ _ a ns hl _ hS => ⟨a, ns, rfl, hS, hl, fun _ => rfl⟩) fun _ _ _ _ _ z => z
end
end Tk
open PySem PySem.W PyProof.Rows
set_option maxRecDepth 100000 in
set_option maxHeartbeats 0 in
theorem PySem.Challenge.cw_turnstile_k02_bounds_made_holds : PySem.Challenge.rw_turnstile_k02_bounds_made.Holds := by
  w_on; o_law; k_head; (case hw => w_witness2)
  k_fill
  refine Tk.walk (l := PySem.Challenge.rw_turnstile_k02_bounds_made) rfl rfl (fun w h Y => PySem.W.kIn_of Y) ?F
  case F =>
    intro w mg fa h KX G hmg
    refine' Tk.all_mk KX G hmg ?z_len ?z_range ?z_max ?z_int ?z_bool ?z_isinstance ?g_LARGEST_SIZE ?g_LARGEST_FLOW ?g_LARGEST_MOST ?g_LARGEST_SPAN ?aC_Jar ?pg_Jar ?hd_Jar ?po_Jar ?sa_Jar ?mk_Jar ?kc_Jar ?n_Jar_0 ?n_Jar_1 ?a1 ?l1 ?c1 ?k1 ?i1 ?a2 ?l2 ?c2 ?k2 ?i2 ?aC_Window ?pg_Window ?hd_Window ?po_Window ?sa_Window ?mk_Window ?kc_Window ?n_Window_0 ?n_Window_1 ?a3 ?l3 ?c3 ?k3 ?i3 ?a4 ?l4 ?c4 ?k4 ?i4 ?aN ?aG ?aB ?xN ?kN ?sN ?tN ?sG ?dG ?tG ?sNG ?hgN ?hkN ?hdN ?haN ?hnO ?htO ?hmN ?kNN ?haJ ?hmJ ?haW ?hmW ?dB ?tB ?tJ ?jb ?wb ?jj ?wj ?nWJ ?pf_Jar_size ?pd_Jar_size ?pt_Jar_size ?a5 ?l5 ?c5 ?k5 ?pf_Jar_flow ?pd_Jar_flow ?pt_Jar_flow ?a6 ?l6 ?c6 ?k6 ?pf_Window_most ?pd_Window_most ?pt_Window_most ?a7 ?l7 ?c7 ?k7 ?pf_Window_span ?pd_Window_span ?pt_Window_span ?a8 ?l8 ?c8 ?k8 ?a9 ?l9 ?c9 ?k9 ?a10 ?l10 ?c10 ?k10 ?a11 ?l11 ?c11 ?k11 ?a12 ?l12 ?c12 ?k12 ?a13 ?l13 ?c13 ?k13 ?a14 ?l14 ?c14 ?k14 ?a15 ?l15 ?c15 ?k15 ?a16 ?l16 ?c16 ?k16 ?a17 ?l17 ?c17 ?k17
    (case z_len => k_is)
    (case z_range => k_is)
    (case z_max => k_is)
    (case z_int => k_is)
    (case z_bool => k_is)
    (case z_isinstance => k_is)
    (case g_LARGEST_SIZE => k_is)
    (case g_LARGEST_FLOW => k_is)
    (case g_LARGEST_MOST => k_is)
    (case g_LARGEST_SPAN => k_is)
    (case aC_Jar => k_is)
    (case pg_Jar => k_is)
    (case hd_Jar => k_is)
    (case po_Jar => k_is)
    (case sa_Jar => k_is)
    (case mk_Jar => k_is)
    (case kc_Jar => k_is)
    (case n_Jar_0 => k_is)
    (case n_Jar_1 => k_is)
    (case a1 => k_is)
    (case l1 => k_is)
    (case c1 => k_is)
    (case k1 => k_is)
    (case i1 => k_is)
    (case a2 => k_is)
    (case l2 => k_is)
    (case c2 => k_is)
    (case k2 => k_is)
    (case i2 => k_is)
    (case aC_Window => k_is)
    (case pg_Window => k_is)
    (case hd_Window => k_is)
    (case po_Window => k_is)
    (case sa_Window => k_is)
    (case mk_Window => k_is)
    (case kc_Window => k_is)
    (case n_Window_0 => k_is)
    (case n_Window_1 => k_is)
    (case a3 => k_is)
    (case l3 => k_is)
    (case c3 => k_is)
    (case k3 => k_is)
    (case i3 => k_is)
    (case a4 => k_is)
    (case l4 => k_is)
    (case c4 => k_is)
    (case k4 => k_is)
    (case i4 => k_is)
    (case aN => k_is)
    (case aG => k_is)
    (case aB => k_is)
    (case xN => k_exc)
    (case kN => k_is)
    (case sN => k_is)
    (case tN => k_is)
    (case sG => k_is)
    (case dG => k_is)
    (case tG => k_is)
    (case sNG => k_is)
    (case hgN => k_is)
    (case hkN => k_is)
    (case hdN => k_is)
    (case haN => k_is)
    (case hnO => k_is)
    (case htO => k_is)
    (case hmN => k_is)
    (case kNN => k_is)
    (case haJ => k_is)
    (case hmJ => k_is)
    (case haW => k_is)
    (case hmW => k_is)
    (case dB => k_is)
    (case tB => k_is)
    (case tJ => k_is)
    (case jb => k_is)
    (case wb => k_is)
    (case jj => k_is)
    (case wj => k_is)
    (case nWJ => decide)
    (case pf_Jar_size => k_is)
    (case pd_Jar_size => k_is)
    (case pt_Jar_size => k_is)
    (case a5 => k_is)
    (case l5 => k_is)
    (case c5 => k_is)
    (case k5 => k_is)
    (case pf_Jar_flow => k_is)
    (case pd_Jar_flow => k_is)
    (case pt_Jar_flow => k_is)
    (case a6 => k_is)
    (case l6 => k_is)
    (case c6 => k_is)
    (case k6 => k_is)
    (case pf_Window_most => k_is)
    (case pd_Window_most => k_is)
    (case pt_Window_most => k_is)
    (case a7 => k_is)
    (case l7 => k_is)
    (case c7 => k_is)
    (case k7 => k_is)
    (case pf_Window_span => k_is)
    (case pd_Window_span => k_is)
    (case pt_Window_span => k_is)
    (case a8 => k_is)
    (case l8 => k_is)
    (case c8 => k_is)
    (case k8 => k_is)
    (case a9 => k_is)
    (case l9 => k_is)
    (case c9 => k_is)
    (case k9 => k_is)
    (case a10 => k_is)
    (case l10 => k_is)
    (case c10 => k_is)
    (case k10 => k_is)
    (case a11 => k_is)
    (case l11 => k_is)
    (case c11 => k_is)
    (case k11 => k_is)
    (case a12 => k_is)
    (case l12 => k_is)
    (case c12 => k_is)
    (case k12 => k_is)
    (case a13 => k_is)
    (case l13 => k_is)
    (case c13 => k_is)
    (case k13 => k_is)
    (case a14 => k_is)
    (case l14 => k_is)
    (case c14 => k_is)
    (case k14 => k_is)
    (case a15 => k_is)
    (case l15 => k_is)
    (case c15 => k_is)
    (case k15 => k_is)
    (case a16 => k_is)
    (case l16 => k_is)
    (case c16 => k_is)
    (case k16 => k_is)
    (case a17 => k_is)
    (case l17 => k_is)
    (case c17 => k_is)
    (case k17 => k_is)
#print axioms PySem.Challenge.cw_turnstile_k02_bounds_made_holds
