"""Facesagain: what numbers of unlike visitors tell about who came again."""
