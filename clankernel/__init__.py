"""Clankernel: a small kernel of messages, handed rights, lent pages and clans."""
