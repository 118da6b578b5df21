package cluster

import "berth/api"

// checkConfig refuses what a cluster can't be made of (P5).
func checkConfig(c api.Config) error {
	for _, v := range [...]struct {
		name             string
		value, low, high int
	}{
		{"nodes", c.Nodes, 1, api.MaxNodes},
		{"jobs", c.Jobs, 1, api.MaxJobs},
		{"wall", c.Wall, 1, api.MaxWall},
		{"end", c.End, 0, api.MaxTime},
	} {
		if v.value < v.low || v.value > v.high {
			return &ValueError{Name: v.name, Value: v.value, Err: ErrConfig}
		}
	}
	// No reservation ends later than this, so that no time ever wraps: a
	// promise is now or the end of another live job, and if that one goes
	// early, the promise moves up.
	if last := c.End + c.Jobs*c.Wall; last > api.MaxTime {
		return &ValueError{Name: "end of the last job", Value: last, Err: ErrConfig}
	}
	return nil
}
